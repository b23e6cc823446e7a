/-
  The walks of lines: a copy of cells, a line like another.
  The walks of lines: how many of a span are meant; a span of a line.
  The walk that erases a span's cells.
  The walk that makes a line longer or shorter.
  The walks that make a line longer or shorter, and a new one.
  The walks of lines: a new one, one of another size, its width.
  The walks of lines: of another size; two lines held against each other.
  The walks that hold two lines against each other.
  The walks of the reference's Clamp and New.
  The walk of the reference's Resize.
  The walk that makes a line of its own of an argument.
  The walks that do one deed with every cell of a span.
  The walks that fill a span.
  The walk of the fact that the laws of lines begin with.
  What inserting and deleting cells makes of a row.
-/
import Derived.Test.YtjljhnahofkmaaaDoorClB
import Derived.Test.YtjljhnahofkmaaaDoorCopyN
import Derived.RegionTactic
import Derived.Deep.RegionLaw
import Derived.Deep.Onto
namespace Go.Proofs.YtjljhnahofkmaaaDoor

open Go.RowKit

/-- A block that holds just these cells. -/
def Row (w : World) (g : Nat) (l : List Cl) : Prop := Blk w g 37 (l.flatMap Cl.cells).toArray
/-- A line as it is handed over. -/
def lineV (A : Option Addr) (n c : Nat) (size : Int) : Value := .agg #[.slice A n c, .int .i64 size]
theorem own_blkN {w : World} {base g n s : Nat} {e : TypeId} {xs : List Value} (h : w.ownsRow base e s (.slice (some ⟨g, 0, none⟩) n n) n xs) : Blk w g e xs.toArray := by
  rcases h.2 with ⟨hv, _⟩ | ⟨g', cap, cur, hv, _, hg, _, _, hs, ht⟩
  · cases hv
  · simp only [Value.slice.injEq, Option.some.injEq, Addr.mk.injEq, and_true, true_and] at hv
    obtain ⟨rfl, rfl⟩ := hv
    have : cur.toList = xs := by rw [← ht]; exact (List.take_of_length_le (by simp; omega)).symm
    unfold Blk
    rw [hg, ← this]
theorem Row.lt {w : World} {g : Nat} {l : List Cl} (h : Row w g l) : g < w.heap.size := Blk.lt h
theorem Row.next {w w' : World} {g : Nat} {l : List Cl} (h : Row w g l) (hb : Below w.heap.size w w') : Row w' g l := Blk.next h hb
theorem add_cell (g j : Nat) : (⟨g, 0, none⟩ : Addr).add j = ⟨g, j, none⟩ := by unfold Addr.add; split <;> simp_all
theorem Row.reads {w : World} {g : Nat} {l : List Cl} (h : Row w g l) : RCells w (some ⟨g, 0, none⟩) l := by
  refine ⟨flat_len _, fun _ => ⟨_, rfl, h.lt, fun j u hu => ?_⟩⟩
  rw [add_cell, Blk.cell h j]
  simpa using hu
theorem splice_row {α : Type} (L cs : List α) (h : cs.length = L.length) : splice L 0 cs = cs := by simp [splice, h]
theorem below_none {B : Nat} {w w' : World} (h : w.grownBy w' none) (hB : B ≤ w.heap.size) : Below B w w' := (Below.refl _ _).grown h hB (fun k hk => by cases hk)
theorem made_len (z : Array Value) (n : Nat) : (madeCells z n).toList.length = n := by simp [madeCells]

set_option maxRecDepth 100000 in
set_option maxHeartbeats 1000000 in
theorem copied_any (A : Option Addr) (c : Nat) (l : List Cl) (hl : l.length ≤ 100000) (w : World) (hr : RCells w A l) :
    Calls Tryd.prog 31 #[.slice A l.length c] w fun e w' => e = .returned (.slice (some ⟨w.heap.size, 0, none⟩) l.length l.length) ∧ Row w' w.heap.size l ∧ Below w.heap.size w w' := by
  obtain ⟨i0, hi0, hz0, hz1, hz2⟩ := info_parts info_cell
  have HI := Lib.hid hi0; have HZ0 := Lib.hid hz0; have HZ1 := Lib.hid hz1; have HZ2 := Lib.hid hz2
  clear hi0 hz0 hz1 hz2
  have HR := Lib.hid hr
  clear hr
  have HF : Hid ((l.flatMap Cl.cells).length = Nat.min l.length l.length * 3) := Lib.hid (by rw [flat_len]; simp)
  go_enter Tryd.func31, Tryd.ntmps31
  go_wp2_with (first
    | (at_make; refine wpList_make_full _ rfl _ _ 22 rfl w.heap.size 37 i0 _ 3 Tryd.underlying22 HI.out HZ0.out HZ1.out _ _ _ _ l.length rfl rfl rfl rfl (by rw [HZ2.out]; omega) (by unfold maxLen; omega) (Nat.le_refl _) ?_; intro w1 hown hgr; have HOwn := Lib.hid hown; have HB1 := Lib.hid (below_none hgr (Nat.le_refl _)); clear hown hgr)
    | (refine wpList_copy_n (o := ⟨some 9, _, _, _, _, _⟩) rfl (.tmp 7) (.tmp 8) 22 22 rfl 37 3 (by decide) Tryd.underlying22 (by kernel_rfl) _ _ _ _ _ _ rfl rfl w.heap.size 0 _ 37 (own_blkN HOwn.out) (l.flatMap Cl.cells) HF.out (fun hpos => ⟨rfl, by obtain ⟨ad, rfl, _, hcell⟩ := (HR.out.next HB1.out).2 (by rw [flat_len] at hpos; omega); exact ⟨ad, rfl, hcell⟩⟩) (by rw [made_len, flat_len]; omega) (cells_one l) w.heap.size w HB1.out (Nat.le_refl _) ?_; intro w2 hblk2 hb2 hg2))
  go_ret
  have h2 := hblk2.out
  rw [splice_row _ _ (by rw [made_len, flat_len])] at h2
  exact ⟨rfl, h2, hb2⟩

/-- What is known of a world in the midst of such a call: the line's box, and the box of what is answered. -/
def KL (w : World) (x y : Array Value) (w' : World) : Prop := Blk w' w.heap.size 28 x ∧ Blk w' (w.heap.size + 1) 28 y ∧ Below w.heap.size w w'
theorem KL.start (w : World) (x y : Array Value) : KL w x y ((w.alloc (.cells x 28)).alloc (.cells y 28)) :=
  ⟨(Blk.new w _ x).alloc _, by have := Blk.new (w.alloc (.cells x 28)) 28 y; simpa using this, ((Below.refl _ _).alloc (Nat.le_refl _) _).alloc (by simp) _⟩
theorem KL.next {w W w' : World} {x y : Array Value} (h : KL w x y W) (hb : Below W.heap.size W w') : KL w x y w' := ⟨h.1.next hb, h.2.1.next hb, h.2.2.trans (hb.mono h.2.2.size)⟩
theorem KL.drew {w W : World} {x y : Array Value} (h : KL w x y W) : KL w x y W.drew := ⟨h.1, h.2.1, h.2.2.drew⟩
theorem KL.cells {w W : World} {a b c d : Value} (h : KL w #[a, b] #[c, d] W) :
    W.cell? ⟨w.heap.size, 0, none⟩ = some a ∧ W.cell? ⟨w.heap.size, 1, none⟩ = some b ∧ W.cell? ⟨w.heap.size + 1, 0, none⟩ = some c ∧ W.cell? ⟨w.heap.size + 1, 1, none⟩ = some d ∧ W.frozen? ⟨w.heap.size + 1, 0, none⟩ = false ∧ W.frozen? ⟨w.heap.size + 1, 1, none⟩ = false :=
  ⟨h.1.cell 0, h.1.cell 1, h.2.1.cell 0, h.2.1.cell 1, h.2.1.frozen 0, h.2.1.frozen 1⟩
theorem KL.two {w W : World} {a b c d : Value} (h : KL w #[a, b] #[c, d] W) : W.cell? ⟨w.heap.size, 0, none⟩ = some a ∧ W.cell? ⟨w.heap.size, 1, none⟩ = some b := ⟨h.1.cell 0, h.1.cell 1⟩
set_option maxRecDepth 100000 in
set_option maxHeartbeats 1000000 in
theorem copy_any (A : Option Addr) (c : Nat) (l : List Cl) (size : Int) (hl : l.length ≤ 100000) (w : World) (hr : RCells w A l) :
    Calls Tryd.prog 25 #[lineV A l.length c size] w fun e w' => ∃ g, w.heap.size ≤ g ∧ e = .returned (lineV (some ⟨g, 0, none⟩) l.length l.length size) ∧ Row w' g l ∧ Below w.heap.size w w' := by
  have HC := Lib.hid (fun W h => copied_any A c l hl W h)
  have HR := Lib.hid hr
  clear hr
  unfold lineV
  generalize l.length = n at *
  have HK := Lib.hid (KL.start w #[.slice A n c, .int .i64 size] #[.slice none 0 0, .int .i64 0])
  obtain ⟨c0, c1, c2, c3, f2, f3⟩ := KL.cells HK.out
  go_enter Tryd.func25, Tryd.ntmps25
  go_wp2_with fail
  clear c0 c1 c2 c3 f2 f3
  go_region_held3 (fun w' => w'.cell? ⟨w.heap.size, 0, none⟩ = some (.slice A n c) ∧ w'.cell? ⟨w.heap.size, 1, none⟩ = some (.int .i64 size)) (first | go_keep | exact KL.two (Hid.out ‹Hid (KL w _ _ w1)›))
    (first | (go_at_call 31; refine (HC.out _ ?_).mono ?_; (exact HR.out.next (by first | exact HK.out.2.2 | exact HK.out.2.2.drew)); rintro e w1 ⟨rfl, hrow, hb1⟩; have L1 : KL w #[.slice A n c, .int .i64 size] #[.slice none 0 0, .int .i64 0] w1 := KL.next (by first | exact HK.out | exact HK.out.drew) hb1; have HL1 := Lib.hid L1; have HRow := Lib.hid hrow; have HB1 := Lib.hid hb1; clear L1 hrow; obtain ⟨hc1, hf1⟩ := bcell hb1))
  all_goals
    have h2 : Row w1 (w.heap.size + 1 + 1) l := by simpa using HRow.out
    have HR2 := Lib.hid h2
    have hb2 := (HL1.out.2.1.set_ 0 (.slice (some ⟨w.heap.size + 1 + 1, 0, none⟩) n n)).set_ 1 (.int .i64 size)
    have e0 : ((w1.setCell ⟨w.heap.size + 1, 0, none⟩ (.slice (some ⟨w.heap.size + 1 + 1, 0, none⟩) n n)).setCell ⟨w.heap.size + 1, 1, none⟩ (.int .i64 size)).cell? ⟨w.heap.size + 1, 0, none⟩ = some (.slice (some ⟨w.heap.size + 1 + 1, 0, none⟩) n n) := hb2.cell 0
    have e1 : ((w1.setCell ⟨w.heap.size + 1, 0, none⟩ (.slice (some ⟨w.heap.size + 1 + 1, 0, none⟩) n n)).setCell ⟨w.heap.size + 1, 1, none⟩ (.int .i64 size)).cell? ⟨w.heap.size + 1, 1, none⟩ = some (.int .i64 size) := hb2.cell 1
    have HB2 := Lib.hid (show Below w.heap.size w ((w1.setCell ⟨w.heap.size + 1, 0, none⟩ (.slice (some ⟨w.heap.size + 1 + 1, 0, none⟩) n n)).setCell ⟨w.heap.size + 1, 1, none⟩ (.int .i64 size)) from (HL1.out.2.2.setCell (by simp) _).setCell (by simp) _)
    have HR3 := Lib.hid (show Row ((w1.setCell ⟨w.heap.size + 1, 0, none⟩ (.slice (some ⟨w.heap.size + 1 + 1, 0, none⟩) n n)).setCell ⟨w.heap.size + 1, 1, none⟩ (.int .i64 size)) (w.heap.size + 1 + 1) l from Blk.far (Blk.far HR2.out (by simp) _) (by simp) _)
    clear h2 HRow HB1 hb1 hb2 hc1 hf1 HR2 HL1
    generalize ((w1.setCell ⟨w.heap.size + 1, 0, none⟩ (.slice (some ⟨w.heap.size + 1 + 1, 0, none⟩) n n)).setCell ⟨w.heap.size + 1, 1, none⟩ (.int .i64 size)) = W at *
    go_wp2_with fail
    exact bodyPost_ret (v := .agg #[.slice (some ⟨w.heap.size + 1 + 1, 0, none⟩) n n, .int .i64 size]) (by simp [results, Tryd.results25, go_sem, e0, e1]) rfl ⟨w.heap.size + 1 + 1, by omega, rfl, HR3.out, HB2.out⟩
end Go.Proofs.YtjljhnahofkmaaaDoor

namespace Go.Proofs.YtjljhnahofkmaaaDoor

open Go.RowKit

/-- How many of n a count means. -/
def cntP (n : Nat) (k : Int) : Nat := min k.toNat n

/-- A span's first column, and the one behind its last. -/
def loP (f : Int) : Nat := f.toNat
def hiP (n : Nat) (t : Int) : Nat := min t.toNat n
set_option maxRecDepth 100000 in
set_option maxHeartbeats 1000000 in
theorem part_none (A : Option Addr) (n c : Nat) (size f t : Int) (h : hiP n t ≤ loP f) (w : World) :
    Calls Tryd.prog 26 #[lineV A n c size, .int .i64 f, .int .i64 t] w fun e w' => e = .returned (.slice none 0 0) ∧ Below w.heap.size w w' := by
  have hd : min t n ≤ max f 0 := by unfold hiP loP at h; omega
  unfold lineV
  have HK := Lib.hid (Blk.new w 28 #[.slice A n c, .int .i64 size])
  have hB := Lib.hid (show Below w.heap.size w (w.alloc (.cells #[.slice A n c, .int .i64 size] 28)) from (Below.refl _ _).alloc (Nat.le_refl _) _)
  clear h
  go_enter Tryd.func26, Tryd.ntmps26
  go_wp2_with fail
  go_quiet (fail)
  go_wp2_with fail
  go_ret
  exact ⟨rfl, below_drewN hB.out _⟩
set_option maxRecDepth 100000 in
set_option maxHeartbeats 1000000 in
theorem part_some (ad : Addr) (n c : Nat) (size f t : Int) (hc : n ≤ c) (h : loP f < hiP n t) (w : World) :
    Calls Tryd.prog 26 #[lineV (some ad) n c size, .int .i64 f, .int .i64 t] w fun e w' => e = .returned (.slice (some (ad.add (loP f * 3))) (hiP n t - loP f) (c - loP f)) ∧ Below w.heap.size w w' := by
  have hmax : max f 0 = (loP f : Int) := by unfold loP; omega
  have hmin : min t (n : Int) = (hiP n t : Int) := by unfold hiP at *; unfold loP at h; omega
  have hT : hiP n t ≤ n := by unfold hiP; omega
  unfold lineV
  have HK := Lib.hid (Blk.new w 28 #[.slice (some ad) n c, .int .i64 size])
  have hB := Lib.hid (show Below w.heap.size w (w.alloc (.cells #[.slice (some ad) n c, .int .i64 size] 28)) from (Below.refl _ _).alloc (Nat.le_refl _) _)
  generalize loP f = F at *
  generalize hiP n t = T at *
  go_enter Tryd.func26, Tryd.ntmps26
  go_wp2_with fail
  go_quiet (fail)
  go_wp2_with fail
  go_ret
  exact ⟨rfl, below_drewN hB.out _⟩
end Go.Proofs.YtjljhnahofkmaaaDoor

namespace Go.Proofs.YtjljhnahofkmaaaDoor

open Go.RowKit

def blankC : Cl := ⟨32, 0, false⟩
/-- m cells from F on erased. -/
def eraseP (L : List Cl) (F m : Nat) : List Cl := L.take F ++ List.replicate m blankC ++ L.drop (F + m)
theorem eraseP_len (L : List Cl) (F m : Nat) (h : F + m ≤ L.length) : (eraseP L F m).length = L.length := by unfold eraseP; simp; omega
theorem eraseP_zero (L : List Cl) (F : Nat) : eraseP L F 0 = L := by unfold eraseP; simp
theorem eraseP_step (L : List Cl) (F m : Nat) (h : F + m < L.length) : (eraseP L F m).set (F + m) blankC = eraseP L F (m + 1) := by
  unfold eraseP
  have h1 : (L.take F ++ List.replicate m blankC).length = F + m := by simp; omega
  rw [List.set_append_right _ _ (by omega), h1, Nat.sub_self]
  have h2 : L.drop (F + m) = L[F + m] :: L.drop (F + m + 1) := List.drop_eq_getElem_cons h
  rw [h2, List.set_cons_zero, List.replicate_succ', Nat.add_assoc F m 1]
  simp
theorem row_cell {w : World} {g k : Nat} {l : List Cl} (h : Row w g l) (hk : k < l.length) :
    w.cell? ⟨g, k * 3, none⟩ = some (.int .i32 l[k].g) ∧ w.cell? ⟨g, k * 3 + 1, none⟩ = some (.int .u8 l[k].r) ∧ w.cell? ⟨g, k * 3 + 2, none⟩ = some (.bool l[k].k) := by
  obtain ⟨h1, h2, h3⟩ := flat_at l k hk
  refine ⟨?_, ?_, ?_⟩ <;> (rw [Blk.cell h]; simpa using ‹_›)
theorem row_store {w : World} {g k : Nat} {l : List Cl} (h : Row w g l) (hk : k < l.length) (x : Cl) :
    Row (((w.setCell ⟨g, k * 3, none⟩ (.int .i32 x.g)).setCell ⟨g, k * 3 + 1, none⟩ (.int .u8 x.r)).setCell ⟨g, k * 3 + 2, none⟩ (.bool x.k)) g (l.set k x) := by
  have h1 := ((Blk.set_ h (k * 3) (.int .i32 x.g)).set_ (k * 3 + 1) (.int .u8 x.r)).set_ (k * 3 + 2) (.bool x.k)
  unfold Row
  rw [← flat_set l k hk x]
  simpa using h1
theorem grown_set1 {w : World} {g o : Nat} {v : Value} : w.grownBy (w.setCell ⟨g, o, none⟩ v) (some g) :=
  ⟨rfl, rfl, rfl, by simp [World.setCell], fun k _ hk => Below.heap_setCell w _ v k (by simpa using hk)⟩
theorem grown_tr {a b c : World} {r : Option Nat} (h : a.grownBy b r) (h' : b.grownBy c r) : a.grownBy c r :=
  ⟨h'.os.trans h.os, h'.tape.trans h.tape, h'.output.trans h.output, Nat.le_trans h.size h'.size, fun k hk hn => (h'.block k (Nat.lt_of_lt_of_le hk h.size) hn).trans (h.block k hk hn)⟩
theorem grown_of_below {w w' : World} {r : Option Nat} (h : Below w.heap.size w w') : w.grownBy w' r := ⟨h.os, h.tape, h.output, h.size, fun k hk _ => h.block k hk⟩


end Go.Proofs.YtjljhnahofkmaaaDoor

namespace Go.Proofs.YtjljhnahofkmaaaDoor

open Go.RowKit

def zeroC : Cl := ⟨0, 0, false⟩
theorem made_cells (N : Nat) : (madeCells (Value.agg #[.int .i32 0, .int .u8 0, .bool false]).cells (N * 3)).toList = (List.replicate N zeroC).flatMap Cl.cells := by
  apply List.ext_getElem?
  intro j
  by_cases hj : j < N * 3
  · have hk : j / 3 < (List.replicate N zeroC).length := by simp; omega
    obtain ⟨h1, h2, h3⟩ := flat_at _ (j / 3) hk
    simp only [List.getElem_replicate] at h1 h2 h3
    have hm : (madeCells (Value.agg #[.int .i32 0, .int .u8 0, .bool false]).cells (N * 3)).toList[j]? = some ((#[Value.int .i32 0, .int .u8 0, .bool false])[j % 3]!) := by
      simp [madeCells, Value.cells, hj]
    rw [hm]
    rcases (by omega : j = j / 3 * 3 ∨ j = j / 3 * 3 + 1 ∨ j = j / 3 * 3 + 2) with e | e | e
    · have hr : j % 3 = 0 := by omega
      rw [hr, e, h1]; rfl
    · have hr : j % 3 = 1 := by omega
      rw [hr, e, h2]; rfl
    · have hr : j % 3 = 2 := by omega
      rw [hr, e, h3]; rfl
  · rw [List.getElem?_eq_none (by rw [made_len]; omega), List.getElem?_eq_none (by rw [flat_len]; simp; omega)]
/-- So many cells of it, and blanks. -/
def resP (l : List Cl) (N : Nat) : List Cl := l.take N ++ List.replicate (N - l.length) blankC
theorem resP_len (l : List Cl) (N : Nat) : (resP l N).length = N := by unfold resP; simp; omega
/-- Cells laid over a row, from a place on. -/
theorem splice_cells (L cs : List Cl) (F : Nat) (h : F + cs.length ≤ L.length) : splice (L.flatMap Cl.cells) (F * 3) (cs.flatMap Cl.cells) = (L.take F ++ cs ++ L.drop (F + cs.length)).flatMap Cl.cells := by
  unfold splice
  have h1 : (L.flatMap Cl.cells).take (F * 3) = (L.take F).flatMap Cl.cells := by
    have e : L.flatMap Cl.cells = (L.take F).flatMap Cl.cells ++ (L.drop F).flatMap Cl.cells := by rw [← List.flatMap_append, List.take_append_drop]
    rw [e, List.take_append_of_le_length (by rw [flat_len, List.length_take]; omega), List.take_of_length_le (by rw [flat_len, List.length_take]; omega)]
  have h2 : ∀ M, M ≤ L.length → (L.flatMap Cl.cells).drop (M * 3) = (L.drop M).flatMap Cl.cells := by
    intro M hM
    have e : L.flatMap Cl.cells = (L.take M).flatMap Cl.cells ++ (L.drop M).flatMap Cl.cells := by rw [← List.flatMap_append, List.take_append_drop]
    have hl : ((L.take M).flatMap Cl.cells).length = M * 3 := by rw [flat_len, List.length_take]; omega
    rw [e, List.drop_append_of_le_length (by omega), List.drop_eq_nil_of_le (by omega), List.nil_append]
  rw [h1, flat_len, show F * 3 + cs.length * 3 = (F + cs.length) * 3 from by omega, h2 _ h, ← List.append_assoc, List.flatMap_append, List.flatMap_append]
theorem splice_zero (l : List Cl) (N m : Nat) (hm : m = min l.length N) : splice ((List.replicate N zeroC).flatMap Cl.cells) 0 ((l.take m).flatMap Cl.cells) = (l.take m ++ List.replicate (N - m) zeroC).flatMap Cl.cells := by
  have hl : (l.take m).length = m := by rw [List.length_take]; omega
  have := splice_cells (List.replicate N zeroC) (l.take m) 0 (by rw [hl]; simp; omega)
  rw [Nat.zero_mul] at this
  rw [this, hl]
  simp
theorem erase_res (l : List Cl) (N m : Nat) (hm : m = min l.length N) : eraseP (l.take m ++ List.replicate (N - m) zeroC) m (N - m) = resP l N := by
  have hl : (l.take m).length = m := by rw [List.length_take]; omega
  unfold eraseP resP
  rw [List.take_append_of_le_length (by omega), List.take_of_length_le (by omega), List.drop_eq_nil_of_le (by simp; omega), List.append_nil]
  by_cases h : l.length ≤ N
  · obtain rfl : m = l.length := by omega
    rw [List.take_length, List.take_of_length_le h]
  · have hmn : m = N := by omega
    rw [show N - l.length = 0 from by omega, hmn, Nat.sub_self]
theorem resP_short (l : List Cl) (N : Nat) (h : N ≤ l.length) : resP l N = l.take N ∧ (l.take N).length = N := by
  unfold resP
  rw [show N - l.length = 0 from by omega]
  exact ⟨by simp, by rw [List.length_take]; omega⟩
theorem KL.far {w W : World} {x y : Array Value} (h : KL w x y W) {W' : World} {g : Nat} (hg : W.grownBy W' (some g)) (hge : w.heap.size + 2 ≤ g) : KL w x y W' := by
  refine ⟨h.1.grown hg ?_, h.2.1.grown hg ?_, h.2.2.grown hg h.2.2.size ?_⟩
  · intro e; injection e with e; omega
  · intro e; injection e with e; omega
  · intro k hk; injection hk with hk; omega
theorem KL.byNone {w W : World} {x y : Array Value} (h : KL w x y W) {W' : World} (hg : W.grownBy W' none) : KL w x y W' :=
  ⟨h.1.grown hg (by simp), h.2.1.grown hg (by simp), h.2.2.grown hg h.2.2.size (fun k hk => by cases hk)⟩
end Go.Proofs.YtjljhnahofkmaaaDoor

namespace Go.Proofs.YtjljhnahofkmaaaDoor

open Go.RowKit

/-- So many columns as may be. -/
def colsP (cols : Int) : Nat := min cols.toNat 500
theorem KL.store2 {w W : World} {a b c d : Value} (h : KL w #[a, b] #[c, d] W) (x y : Value) :
    KL w #[a, b] #[x, y] ((W.setCell ⟨w.heap.size + 1, 0, none⟩ x).setCell ⟨w.heap.size + 1, 1, none⟩ y) :=
  ⟨Blk.far (Blk.far h.1 (by simp) _) (by simp) _, (h.2.1.set_ 0 x).set_ 1 y, (h.2.2.setCell (by simp) _).setCell (by simp) _⟩
theorem KL.res {w W : World} {a b x y : Value} (h : KL w #[a, b] #[x, y] W) : W.cell? ⟨w.heap.size + 1, 0, none⟩ = some x ∧ W.cell? ⟨w.heap.size + 1, 1, none⟩ = some y ∧ W.frozen? ⟨w.heap.size + 1, 0, none⟩ = false ∧ W.frozen? ⟨w.heap.size + 1, 1, none⟩ = false :=
  ⟨h.2.1.cell 0, h.2.1.cell 1, h.2.1.frozen 0, h.2.1.frozen 1⟩



end Go.Proofs.YtjljhnahofkmaaaDoor

namespace Go.Proofs.YtjljhnahofkmaaaDoor

open Go.RowKit

/-- What is known of a world where there is the box of what is answered alone. -/
def KR (w : World) (y : Array Value) (w' : World) : Prop := Blk w' w.heap.size 28 y ∧ Below w.heap.size w w'
theorem KR.start (w : World) (y : Array Value) : KR w y (w.alloc (.cells y 28)) := ⟨Blk.new w _ y, (Below.refl _ _).alloc (Nat.le_refl _) _⟩
theorem KR.next {w W w' : World} {y : Array Value} (h : KR w y W) (hb : Below W.heap.size W w') : KR w y w' := ⟨h.1.next hb, h.2.trans (hb.mono h.2.size)⟩
theorem KR.store2 {w W : World} {c d : Value} (h : KR w #[c, d] W) (x y : Value) : KR w #[x, y] ((W.setCell ⟨w.heap.size, 0, none⟩ x).setCell ⟨w.heap.size, 1, none⟩ y) :=
  ⟨(h.1.set_ 0 x).set_ 1 y, (h.2.setCell (by simp) _).setCell (by simp) _⟩
theorem KR.res {w W : World} {x y : Value} (h : KR w #[x, y] W) : W.cell? ⟨w.heap.size, 0, none⟩ = some x ∧ W.cell? ⟨w.heap.size, 1, none⟩ = some y ∧ W.frozen? ⟨w.heap.size, 0, none⟩ = false ∧ W.frozen? ⟨w.heap.size, 1, none⟩ = false :=
  ⟨h.1.cell 0, h.1.cell 1, h.1.frozen 0, h.1.frozen 1⟩


/-- How many columns a line shows. -/
def widthP (n : Nat) (size : Int) : Int := if size = 0 then n else max (n / 2) (min n 1)


end Go.Proofs.YtjljhnahofkmaaaDoor

namespace Go.Proofs.YtjljhnahofkmaaaDoor

open Go.RowKit

theorem KL.alloc {w W : World} {x y : Array Value} (h : KL w x y W) (o : Obj) : KL w x y (W.alloc o) := ⟨h.1.alloc o, h.2.1.alloc o, h.2.2.alloc h.2.2.size o⟩
theorem Row.far2 {W : World} {g a : Nat} {l : List Cl} (h : Row W g l) (hg : a < g) (x y : Value) : Row ((W.setCell ⟨a, 0, none⟩ x).setCell ⟨a, 1, none⟩ y) g l := Blk.far (Blk.far h (by simp; omega) _) (by simp; omega) _
/-- The size that is asked for, or the plain one. -/
def sizedP (s : Int) : Int := if s = 1 ∨ s = 2 ∨ s = 3 then s else 0

end Go.Proofs.YtjljhnahofkmaaaDoor

namespace Go.Proofs.YtjljhnahofkmaaaDoor

open Go.RowKit




end Go.Proofs.YtjljhnahofkmaaaDoor

namespace Go.Proofs.YtjljhnahofkmaaaDoor

open Go.RowKit

/-- A number between two others. -/
def clampP (n a b : Int) : Int := if n < a then a else if n > b then b else n
theorem clampP_cols (c : Int) : clampP c 0 500 = (colsP c : Int) := by
  unfold clampP colsP
  split
  · omega
  · split <;> omega

theorem own_far {w : World} {base : Nat} {e : TypeId} {s n : Nat} {v : Value} {xs : List Value} (h : w.ownsRow base e s v n xs) : ∀ k, v.ownBlock = some k → base ≤ k := by
  rcases h.2 with ⟨rfl, _⟩ | ⟨g, cap, cur, rfl, hb, _⟩
  · intro k hk; simp [Value.ownBlock] at hk
  · intro k hk; simp [Value.ownBlock] at hk; omega
theorem KL.grown {w W w' : World} {x y : Array Value} {row : Option Nat} (h : KL w x y W) (hg : W.grownBy w' row) (hr : ∀ k, row = some k → w.heap.size + 2 ≤ k) : KL w x y w' :=
  ⟨h.1.grown hg (fun e => by have := hr _ e.symm; omega), h.2.1.grown hg (fun e => by have := hr _ e.symm; omega), h.2.2.grown hg h.2.2.size (fun k hk => by have := hr k hk; omega)⟩
theorem KL.set20 {w W : World} {x : Array Value} {c d : Value} (h : KL w x #[c, d] W) (u : Value) : KL w x #[u, d] (W.setCell ⟨w.heap.size + 1, 0, none⟩ u) :=
  ⟨Blk.far h.1 (by simp) _, h.2.1.set_ 0 u, h.2.2.setCell (by simp) _⟩
theorem KL.store1 {w W : World} {a b : Value} {y : Array Value} (h : KL w #[a, b] y W) (u v : Value) : KL w #[u, v] y ((W.setCell ⟨w.heap.size, 0, none⟩ u).setCell ⟨w.heap.size, 1, none⟩ v) :=
  ⟨(h.1.set_ 0 u).set_ 1 v, Blk.far (Blk.far h.2.1 (by simp) _) (by simp) _, (h.2.2.setCell (by simp) _).setCell (by simp) _⟩
theorem KL.first {w W : World} {a b : Value} {y : Array Value} (h : KL w #[a, b] y W) : W.cell? ⟨w.heap.size, 0, none⟩ = some a ∧ W.cell? ⟨w.heap.size, 1, none⟩ = some b ∧ W.frozen? ⟨w.heap.size, 0, none⟩ = false ∧ W.frozen? ⟨w.heap.size, 1, none⟩ = false :=
  ⟨h.1.cell 0, h.1.cell 1, h.1.frozen 0, h.1.frozen 1⟩
theorem OCells.far {w : World} {base : Nat} {v : Value} {l : List Cl} (h : OCells w base v l) {g : Nat} (hp : g < base) (o : Nat) (u : Value) : OCells (w.setCell ⟨g, o, none⟩ u) base v l :=
  World.ownsRow.kept (row := some g) h grown_set1 (by
    rcases hk : v.ownBlock with _ | k
    · exact .inl rfl
    · right; intro e; have := own_far h k hk; simp at e; omega)

theorem OCells.rep {W : World} {b k : Nat} {v : Value} {c : Cl} (h : OCells W b v (List.replicate k c)) : W.ownsRow b 37 3 v k ((List.replicate k c).flatMap Cl.cells) := by
  unfold OCells at h
  rw [List.length_replicate] at h
  exact h
theorem ocells_more {W : World} {b k : Nat} {v : Value} (h : W.ownsRow b 37 3 v (k + 1) ((List.replicate k blankC).flatMap Cl.cells ++ [.int .i32 32, .int .u8 0, .bool false])) : OCells W b v (List.replicate (k + 1) blankC) := by
  unfold OCells
  rw [List.length_replicate, List.replicate_succ', List.flatMap_append]
  exact h


end Go.Proofs.YtjljhnahofkmaaaDoor

namespace Go.Proofs.YtjljhnahofkmaaaDoor

open Go.RowKit

/-- The first k cells of l, and blanks up to N. -/
def mixP (l : List Cl) (N k : Nat) : List Cl := l.take k ++ List.replicate (N - k) blankC
theorem mixP_len (l : List Cl) (N k : Nat) (hk : k ≤ N) (hl : k ≤ l.length) : (mixP l N k).length = N := by unfold mixP; simp; omega
theorem mixP_zero (l : List Cl) (N : Nat) : mixP l N 0 = List.replicate N blankC := by simp [mixP]
theorem mixP_step (l : List Cl) (N k : Nat) (hk : k < N) (hl : k < l.length) : (mixP l N k).set k l[k] = mixP l N (k + 1) := by
  unfold mixP
  have h1 : (l.take k).length = k := by simp; omega
  have h2 : N - k = (N - (k + 1)) + 1 := by omega
  rw [List.set_append_right _ _ (by omega), h1, Nat.sub_self, h2, List.replicate_succ, List.set_cons_zero, take_snoc l k hl, List.append_assoc]
  rfl
theorem mixP_all (l : List Cl) (N : Nat) (h : N ≤ l.length) : mixP l N N = resP l N := by
  unfold mixP resP
  rw [Nat.sub_self, Nat.sub_eq_zero_of_le h]
theorem mixP_short (l : List Cl) (N : Nat) (h : l.length ≤ N) : mixP l N l.length = resP l N := by
  unfold mixP resP
  rw [List.take_length, List.take_of_length_le h]
theorem OCells.cell3 {W : World} {b g n c : Nat} {L : List Cl} (h : OCells W b (.slice (some ⟨g, 0, none⟩) n c) L) (hn : n = L.length) {k : Nat} (hk : k < L.length) :
    W.cell? ⟨g, k * 3, none⟩ = some (.int .i32 L[k].g) ∧ W.cell? ⟨g, k * 3 + 1, none⟩ = some (.int .u8 L[k].r) ∧ W.cell? ⟨g, k * 3 + 2, none⟩ = some (.bool L[k].k) ∧ ∀ j, W.frozen? ⟨g, j, none⟩ = false := by
  subst hn
  obtain ⟨h1, h2, h3⟩ := flat_at L k hk
  refine ⟨?_, ?_, ?_, fun j => World.ownsRow.frozenAt h j⟩
  · rw [World.ownsRow.cellAt h _ (by omega), h1]
  · rw [World.ownsRow.cellAt h _ (by omega), h2]
  · rw [World.ownsRow.cellAt h _ (by omega), h3]
theorem OCells.set3 {W : World} {b g n c : Nat} {L : List Cl} (h : OCells W b (.slice (some ⟨g, 0, none⟩) n c) L) (hn : n = L.length) {k : Nat} (hk : k < L.length) (x : Cl) :
    OCells (((W.setCell ⟨g, k * 3, none⟩ (.int .i32 x.g)).setCell ⟨g, k * 3 + 1, none⟩ (.int .u8 x.r)).setCell ⟨g, k * 3 + 2, none⟩ (.bool x.k)) b (.slice (some ⟨g, 0, none⟩) n c) (L.set k x) := by
  subst hn
  have h1 := (World.ownsRow.stored h (k * 3) (.int .i32 x.g)).1
  have h2 := (World.ownsRow.stored h1 (k * 3 + 1) (.int .u8 x.r)).1
  have h3 := (World.ownsRow.stored h2 (k * 3 + 2) (.bool x.k)).1
  rw [flat_set L k hk x] at h3
  unfold OCells
  rw [List.length_set]
  exact h3
theorem OCells.apart {W : World} {b g : Nat} {v : Value} {L : List Cl} (h : OCells W b v L) (hne : ∀ k, v.ownBlock = some k → k ≠ g) (o : Nat) (u : Value) : OCells (W.setCell ⟨g, o, none⟩ u) b v L :=
  World.ownsRow.kept (row := some g) h grown_set1 (by
    rcases hk : v.ownBlock with _ | k
    · exact .inl rfl
    · right; intro e; exact hne k hk (by simpa using e))
theorem KL.beyond {w W : World} {x y : Array Value} (h : KL w x y W) {g : Nat} (hg : w.heap.size + 2 ≤ g) (o : Nat) (u : Value) : KL w x y (W.setCell ⟨g, o, none⟩ u) :=
  KL.grown h grown_set1 (fun k hk => by injection hk with e; omega)


end Go.Proofs.YtjljhnahofkmaaaDoor

namespace Go.Proofs.YtjljhnahofkmaaaDoor

open Go.RowKit


end Go.Proofs.YtjljhnahofkmaaaDoor

namespace Go.Proofs.YtjljhnahofkmaaaDoor

open Go.RowKit


/-- A deed, done with k cells from F on. -/
def eachP (φ : Cl → Cl) (l : List Cl) (F k : Nat) : List Cl := l.take F ++ ((l.drop F).take k).map φ ++ l.drop (F + k)
theorem eachP_len (φ : Cl → Cl) (l : List Cl) (F k : Nat) (h : F + k ≤ l.length) : (eachP φ l F k).length = l.length := by unfold eachP; simp; omega
theorem eachP_zero (φ : Cl → Cl) (l : List Cl) (F : Nat) : eachP φ l F 0 = l := by unfold eachP; simp
theorem eachP_at (φ : Cl → Cl) (l : List Cl) (F k : Nat) (h : F + k < l.length) (h' : F + k < (eachP φ l F k).length) : (eachP φ l F k)[F + k] = l[F + k] := by
  unfold eachP at *
  have h1 : (l.take F ++ ((l.drop F).take k).map φ).length = F + k := by simp; omega
  rw [List.getElem_append_right (by omega)]
  simp only [h1, Nat.sub_self, List.getElem_drop, Nat.add_zero]
theorem eachP_step (φ : Cl → Cl) (l : List Cl) (F k : Nat) (h : F + k < l.length) : (eachP φ l F k).set (F + k) (φ l[F + k]) = eachP φ l F (k + 1) := by
  unfold eachP
  have h1 : (l.take F ++ ((l.drop F).take k).map φ).length = F + k := by simp; omega
  rw [List.set_append_right _ _ (by omega), h1, Nat.sub_self]
  have h2 : l.drop (F + k) = l[F + k] :: l.drop (F + k + 1) := List.drop_eq_getElem_cons h
  have h3 : (l.drop F).take (k + 1) = (l.drop F).take k ++ [l[F + k]] := by
    rw [take_snoc (l.drop F) k (by rw [List.length_drop]; omega)]
    simp
  rw [h2, List.set_cons_zero, h3, List.map_append, Nat.add_assoc F k 1]
  simp

set_option maxRecDepth 100000 in
set_option maxHeartbeats 4000000 in
theorem each_any (G : Nat) (u : Value) (φ : Cl → Cl) (hE : ∀ args W, (callFunc G args).run Tryd.prog W = .ok (.enter G args) W) (A : Option Addr) (c : Nat) (l : List Cl) (size f t : Int) (hl : l.length ≤ 100000) (w : World) (hr : RCells w A l)
    (hG : ∀ x ∈ l, ∀ W, Below w.heap.size w W → Calls Tryd.prog G #[u, x.val] W fun e w' => e = .returned (φ x).val ∧ Below W.heap.size W w') :
    Calls Tryd.prog 17 #[lineV A l.length c size, .int .i64 f, .int .i64 t, .func (.func G) #[u] #[]] w fun e w' => ∃ g, w.heap.size ≤ g ∧ e = .returned (lineV (some ⟨g, 0, none⟩) l.length l.length size) ∧ Row w' g (eachP φ l (loP f) (hiP l.length t - loP f)) ∧ Below w.heap.size w w' := by
  have HC := Lib.hid (fun W h => copy_any A c l size hl W h)
  have HG := Lib.hid hG
  have HR := Lib.hid hr
  clear hr hG
  have HPS := Lib.hid (fun ad c' h W => part_some ad l.length c' size f t h W)
  have HPN := Lib.hid (fun A' c' h W => part_none A' l.length c' size f t h W)
  have hT : hiP l.length t ≤ l.length := by unfold hiP; omega
  unfold lineV at *
  generalize hn : l.length = n at *
  have HN := Lib.hid hn
  clear hn
  generalize loP f = F at *
  generalize hiP n t = T at *
  generalize hM : T - F = M at *
  have HK := Lib.hid (KL.start w #[.slice A n c, .int .i64 size] #[.slice none 0 0, .int .i64 0])
  go_enter Tryd.func17, Tryd.ntmps17
  go_wp2_with fail
  refine (HC.out _ (HR.out.next HK.out.2.2)).mono ?_
  rintro e w1 ⟨g, hg, rfl, hrow, hb1⟩
  have HK1 := Lib.hid (KL.alloc (KL.next HK.out hb1) (.cells #[.slice (some ⟨g, 0, none⟩) n n, .int .i64 size] 28))
  have HB1 := Lib.hid (Blk.new w1 28 #[.slice (some ⟨g, 0, none⟩) n n, .int .i64 size])
  have HRow1 := Lib.hid (Blk.alloc hrow (.cells #[.slice (some ⟨g, 0, none⟩) n n, .int .i64 size] 28))
  have hgB := Row.lt hrow
  have hg2 : w.heap.size + 2 ≤ g := by simp at hg; omega
  have HFin : Hid (∀ W W' : World, KL w #[.slice A n c, .int .i64 size] #[.slice none 0 0, .int .i64 0] W → ∀ L, Row W g L → W' = (W.setCell ⟨w.heap.size + 1, 0, none⟩ (.slice (some ⟨g, 0, none⟩) n n)).setCell ⟨w.heap.size + 1, 1, none⟩ (.int .i64 size) →
      W'.cell? ⟨w.heap.size + 1, 0, none⟩ = some (.slice (some ⟨g, 0, none⟩) n n) ∧ W'.cell? ⟨w.heap.size + 1, 1, none⟩ = some (.int .i64 size) ∧ Row W' g L ∧ Below w.heap.size w W') := Lib.hid (by
    rintro W W' h L hL rfl
    have h2 := KL.store2 h (.slice (some ⟨g, 0, none⟩) n n) (.int .i64 size)
    exact ⟨(KL.res h2).1, (KL.res h2).2.1, Row.far2 hL (by omega) _ _, h2.2.2⟩)
  clear hg hrow hb1
  go_wp2_with fail
  generalize w1.heap.size = B at *
  generalize w1.alloc (.cells #[.slice (some ⟨g, 0, none⟩) n n, .int .i64 size] 28) = W1 at *
  by_cases hlt : F < T
  · refine (HPS.out _ _ (by omega) hlt _).mono ?_
    rintro e w2 ⟨rfl, hb2⟩
    rw [add_cell]
    have HK2 := Lib.hid (KL.next HK1.out hb2)
    have HB2 := Lib.hid (HB1.out.next hb2)
    have HRow2 := Lib.hid (Row.next HRow1.out hb2)
    have hM2 : F + M ≤ n := by omega
    clear hM hb2
    go_wp2_with fail
    go_loopw [21] (fun i wr => ∃ k : Nat, k ≤ M ∧ i = .int .i64 k ∧ Row wr g (eachP φ l F k) ∧ KL w #[.slice A n c, .int .i64 size] #[.slice none 0 0, .int .i64 0] wr ∧ Blk wr B 28 #[.slice (some ⟨g, 0, none⟩) n n, .int .i64 size]) (fun i _ => M - (intOf i).toNat)
    case atStart => exact ⟨0, by omega, rfl, by rw [eachP_zero]; exact HRow2.out, HK2.out, HB2.out⟩
    case round =>
      obtain ⟨k, hk, rfl, hrow, hkl, hblk⟩ := hrel
      have HRow := Lib.hid hrow; have HKL := Lib.hid hkl; have HBlk := Lib.hid hblk
      clear hrow hkl hblk
      by_cases hkM : k < M
      · have HS := Lib.hid (eachP_step φ l F k (by rw [HN.out]; omega))
        have hlen := eachP_len φ l F k (by rw [HN.out]; omega)
        have hk' : F + k < (eachP φ l F k).length := by rw [hlen, HN.out]; omega
        have HAt := Lib.hid (eachP_at φ l F k (by rw [HN.out]; omega) hk')
        obtain ⟨d0, d1, d2⟩ := row_cell HRow.out hk'
        rw [HAt.out] at d0 d1 d2
        have HX := Lib.hid (fun W (hB : Below w.heap.size w W) => HG.out (l[F + k]'(by rw [HN.out]; omega)) (List.getElem_mem _) W hB)
        generalize l[F + k]'(by rw [HN.out]; omega) = x at *
        have ek : (F + k) * 3 = F * 3 + k * 3 := by omega
        rw [ek] at d0 d1 d2
        clear HAt hlen
        obtain ⟨xg, xr, xk⟩ := x
        unfold Cl.val at HX
        simp only at d0 d1 d2
        go_wp2_with fail
        refine (HX.out _ (KL.alloc HKL.out (.cells #[.int .i32 xg, .int .u8 xr, .bool xk] 37)).2.2).mono ?_
        rintro e w3 ⟨rfl, hb3⟩
        have HK3 := Lib.hid (KL.next (KL.alloc HKL.out (.cells #[.int .i32 xg, .int .u8 xr, .bool xk] 37)) hb3)
        have HB3 := Lib.hid (Blk.next (Blk.alloc HBlk.out (.cells #[.int .i32 xg, .int .u8 xr, .bool xk] 37)) hb3)
        have HR3 := Lib.hid (Row.next (show Row _ g _ from Blk.alloc HRow.out (.cells #[.int .i32 xg, .int .u8 xr, .bool xk] 37)) hb3)
        clear d0 d1 d2 hb3
        obtain ⟨d0, d1, d2⟩ := row_cell HR3.out hk'
        rw [ek] at d0 d1 d2
        have f0 := Blk.frozen HR3.out (F * 3 + k * 3); have f1 := Blk.frozen HR3.out (F * 3 + k * 3 + 1); have f2 := Blk.frozen HR3.out (F * 3 + k * 3 + 2)
        have HSt := Lib.hid (row_store HR3.out hk' (φ ⟨xg, xr, xk⟩))
        rw [ek, HS.out] at HSt
        have HKS := Lib.hid (KL.beyond (KL.beyond (KL.beyond HK3.out hg2 (F * 3 + k * 3) (.int .i32 (φ ⟨xg, xr, xk⟩).g)) hg2 (F * 3 + k * 3 + 1) (.int .u8 (φ ⟨xg, xr, xk⟩).r)) hg2 (F * 3 + k * 3 + 2) (.bool (φ ⟨xg, xr, xk⟩).k))
        have HBS := Lib.hid (Blk.far (Blk.far (Blk.far HB3.out (p := ⟨g, F * 3 + k * 3, none⟩) (by simp; omega) (.int .i32 (φ ⟨xg, xr, xk⟩).g)) (p := ⟨g, F * 3 + k * 3 + 1, none⟩) (by simp; omega) (.int .u8 (φ ⟨xg, xr, xk⟩).r)) (p := ⟨g, F * 3 + k * 3 + 2, none⟩) (by simp; omega) (.bool (φ ⟨xg, xr, xk⟩).k))
        generalize (eachP φ l F k)[F + k] = old at *
        clear HS HX ek
        generalize φ ⟨xg, xr, xk⟩ = y at *
        go_wp2_with fail
        go_roundw
        case rel => exact ⟨k + 1, by omega, by go_num, HSt.out, HKS.out, HBS.out⟩
        case measure => simp [intOf]; omega
      · obtain rfl : k = M := by omega
        have b0 : wr.cell? ⟨B, 0, none⟩ = some (.slice (some ⟨g, 0, none⟩) n n) := HBlk.out.cell 0
        have b1 : wr.cell? ⟨B, 1, none⟩ = some (.int .i64 size) := HBlk.out.cell 1
        obtain ⟨c2, c3, f2, f3⟩ := KL.res HKL.out
        go_wp2_with fail
        obtain ⟨e0, e1, h3, h4⟩ := HFin.out _ _ HKL.out _ HRow.out rfl
        exact bodyPost_ret (v := .agg #[.slice (some ⟨g, 0, none⟩) n n, .int .i64 size]) (by simp [results, Tryd.results17, go_sem, e0, e1]) rfl ⟨g, by omega, rfl, h3, h4⟩
  · obtain rfl : M = 0 := by omega
    refine (HPN.out _ _ (by omega) _).mono ?_
    rintro e w2 ⟨rfl, hb2⟩
    have HK2 := Lib.hid (KL.next HK1.out hb2)
    have HB2 := Lib.hid (HB1.out.next hb2)
    have HRow2 : Hid (Row w2 g (eachP φ l F 0)) := Lib.hid (by rw [eachP_zero]; exact Row.next HRow1.out hb2)
    clear hb2 hM hlt
    have b0 : w2.cell? ⟨B, 0, none⟩ = some (.slice (some ⟨g, 0, none⟩) n n) := HB2.out.cell 0
    have b1 : w2.cell? ⟨B, 1, none⟩ = some (.int .i64 size) := HB2.out.cell 1
    obtain ⟨c2, c3, f2, f3⟩ := KL.res HK2.out
    go_wp2_with fail
    go_loop [21] (fun i => i = .int .i64 0) (fun i => 0)
    case atStart => exact rfl
    case round =>
      subst hrel
      go_wp2_with fail
      obtain ⟨e0, e1, h3, h4⟩ := HFin.out _ _ HK2.out _ HRow2.out rfl
      exact bodyPost_ret (v := .agg #[.slice (some ⟨g, 0, none⟩) n n, .int .i64 size]) (by simp [results, Tryd.results17, go_sem, e0, e1]) rfl ⟨g, by omega, rfl, h3, h4⟩
end Go.Proofs.YtjljhnahofkmaaaDoor

namespace Go.Proofs.YtjljhnahofkmaaaDoor

open Go.RowKit

theorem Blk.set2 {W : World} {g : Nat} {t : TypeId} {a b : Value} (h : Blk W g t #[a, b]) (x y : Value) : Blk ((W.setCell ⟨g, 0, none⟩ x).setCell ⟨g, 1, none⟩ y) g t #[x, y] := (h.set_ 0 x).set_ 1 y


end Go.Proofs.YtjljhnahofkmaaaDoor

namespace Go.Proofs.YtjljhnahofkmaaaDoor

open Go.RowKit

theorem under_line : Tryd.prog.underlying 28 = some (.struct (Tryd.prog.fieldsOf 28)) := by kernel_rfl
theorem field0_line : ((Tryd.prog.fieldsOf 28)[0]?).map (fun f => (f.type, f.offset)) = some (22, 0) := by kernel_rfl
theorem part_slice (W : World) (xs : Array Value) (i : Nat) (v : Value) (h : xs[i]? = some v) : (part 22 xs i).run Tryd.prog W = .ok v W := by
  simp [part, h]
/-- The cells of a line that is a value. -/
theorem field_line (a b : Value) (W : World) : (Instr.field 28 (.agg #[a, b]) 0).run Tryd.prog W = .ok a W := by
  have h := field0_line
  rcases hf : (Tryd.prog.fieldsOf 28)[0]? with _ | f
  · rw [hf] at h; cases h
  · rw [hf] at h
    simp only [Option.map_some, Option.some.injEq, Prod.mk.injEq] at h
    obtain ⟨h1, h2⟩ := h
    have hp := part_slice W #[a, b] 0 a rfl
    simp [Instr.field, run_underlying under_line, hf, h1, h2, hp, asAgg]

def threeC : List Cl := [blankC, blankC, blankC]
def inkC : Cl := ⟨120, 0, false⟩

end Go.Proofs.YtjljhnahofkmaaaDoor

namespace Go.Proofs.YtjljhnahofkmaaaDoor

open Go.RowKit

/-- K new cells at the beginning of the M cells from F on; the last ones of these are lost. -/
def insP (l : List Cl) (F M K : Nat) : List Cl := l.take F ++ List.replicate K blankC ++ (l.drop F).take (M - K) ++ l.drop (F + M)
/-- K cells at the beginning of the M cells from F on go. -/
def delP (l : List Cl) (F M K : Nat) : List Cl := l.take F ++ (l.drop (F + K)).take (M - K) ++ List.replicate K blankC ++ l.drop (F + M)
theorem insP_none (l : List Cl) (F : Nat) : insP l F 0 0 = l := by simp [insP]
theorem delP_none (l : List Cl) (F : Nat) : delP l F 0 0 = l := by simp [delP]
theorem insP_len (l : List Cl) (F M K : Nat) (hM : F + M ≤ l.length) (hK : K ≤ M) : (insP l F M K).length = l.length := by unfold insP; simp; omega
theorem delP_len (l : List Cl) (F M K : Nat) (hM : F + M ≤ l.length) (hK : K ≤ M) : (delP l F M K).length = l.length := by unfold delP; simp; omega
theorem ins_steps (l : List Cl) (F M K : Nat) (hM : F + M ≤ l.length) (hK : K ≤ M) :
    eraseP (l.take (F + K) ++ (l.drop F).take (M - K) ++ l.drop (F + K + (M - K))) F K = insP l F M K := by
  unfold eraseP insP
  have e : F + K + (M - K) = F + M := by omega
  have h1 : (l.take (F + K) ++ (l.drop F).take (M - K) ++ l.drop (F + M)).take F = l.take F := by
    rw [List.append_assoc, List.take_append_of_le_length (by simp; omega), List.take_take, Nat.min_eq_left (by omega)]
  have h2 : (l.take (F + K) ++ (l.drop F).take (M - K) ++ l.drop (F + M)).drop (F + K) = (l.drop F).take (M - K) ++ l.drop (F + M) := by
    have h3 : (l.take (F + K)).length = F + K := by simp; omega
    rw [List.append_assoc, List.drop_append_of_le_length (by omega), List.drop_eq_nil_of_le (by omega), List.nil_append]
  rw [e, h1, h2]
  simp
theorem del_steps (l : List Cl) (F M K : Nat) (hM : F + M ≤ l.length) (hK : K ≤ M) :
    eraseP (l.take F ++ (l.drop (F + K)).take (M - K) ++ l.drop (F + (M - K))) (F + (M - K)) K = delP l F M K := by
  unfold eraseP delP
  have h0 : (l.take F ++ (l.drop (F + K)).take (M - K)).length = F + (M - K) := by simp; omega
  have h1 : (l.take F ++ (l.drop (F + K)).take (M - K) ++ l.drop (F + (M - K))).take (F + (M - K)) = l.take F ++ (l.drop (F + K)).take (M - K) := by
    rw [List.take_append_of_le_length (by omega), List.take_of_length_le (by omega)]
  have h2 : (l.take F ++ (l.drop (F + K)).take (M - K) ++ l.drop (F + (M - K))).drop (F + (M - K) + K) = l.drop (F + M) := by
    rw [List.drop_append, List.drop_eq_nil_of_le (by omega), List.nil_append, h0, List.drop_drop]
    congr 1
    omega
  rw [h1, h2]
/-- What lies in a row from a place on. -/
theorem row_src {w : World} {g F m : Nat} {l : List Cl} (h : Row w g l) (hF : F ≤ l.length) : ∀ j v, (((l.drop F).take m).flatMap Cl.cells)[j]? = some v → w.cell? ((⟨g, F * 3, none⟩ : Addr).add j) = some v := by
  intro j v hv
  have ha : (⟨g, F * 3, none⟩ : Addr).add j = ⟨g, F * 3 + j, none⟩ := by unfold Addr.add; split <;> simp_all
  rw [ha, Blk.cell h]
  have e1 : l.flatMap Cl.cells = (l.take F).flatMap Cl.cells ++ (((l.drop F).take m).flatMap Cl.cells ++ ((l.drop F).drop m).flatMap Cl.cells) := by
    rw [← List.flatMap_append, ← List.flatMap_append, List.take_append_drop, List.take_append_drop]
  have hl : ((l.take F).flatMap Cl.cells).length = F * 3 := by rw [flat_len, List.length_take]; omega
  have hj : j < (((l.drop F).take m).flatMap Cl.cells).length := by
    rcases Nat.lt_or_ge j (((l.drop F).take m).flatMap Cl.cells).length with h' | h'
    · exact h'
    · rw [List.getElem?_eq_none h'] at hv; cases hv
  rw [List.getElem?_toArray, e1, List.getElem?_append_right (by omega), hl, Nat.add_sub_cancel_left, List.getElem?_append_left hj]
  exact hv

end Go.Proofs.YtjljhnahofkmaaaDoor

/-
  LineShapes holds, whatever the input.
-/
import Derived.Test.YtngklakdbagjpaaFrame0
import Derived.Test.YtngklakdbagjpaaLineX
import Derived.Test.YtngklakdbagjpaaFrameL
namespace Go.Proofs.Ytngklakdbagjpaa.lineShapes
open Go.ChangeShapes Go.WideShapes Go.ChangeAt Go.RowKit
open Go.ChangeMaps (open_string)

/-- What is known of a world in the midst of such a law: the line's box. -/
def KL1 (w : World) (x : Array Value) (w' : World) : Prop := Blk w' w.heap.size 24 x ∧ Below w.heap.size w w'
theorem KL1.start (w : World) (x : Array Value) : KL1 w x (w.alloc (.cells x 24)) := ⟨Blk.new w _ x, (Below.refl _ _).alloc (Nat.le_refl _) _⟩
theorem KL1.next {w W w' : World} {x : Array Value} (h : KL1 w x W) (hb : Below W.heap.size W w') : KL1 w x w' := ⟨h.1.next hb, h.2.trans (hb.mono h.2.size)⟩
theorem KL1.store1 {w W : World} {a b : Value} (h : KL1 w #[a, b] W) (u v : Value) : KL1 w #[u, v] ((W.setCell ⟨w.heap.size, 0, none⟩ u).setCell ⟨w.heap.size, 1, none⟩ v) :=
  ⟨(h.1.set_ 0 u).set_ 1 v, (h.2.setCell (by simp) _).setCell (by simp) _⟩
theorem KL1.all {w W : World} {a b : Value} (h : KL1 w #[a, b] W) : W.cell? ⟨w.heap.size, 0, none⟩ = some a ∧ W.cell? ⟨w.heap.size, 1, none⟩ = some b ∧ W.frozen? ⟨w.heap.size, 0, none⟩ = false ∧ W.frozen? ⟨w.heap.size, 1, none⟩ = false := cells2 h.1
theorem KL1.only {w wr W : World} {x : Array Value} (h : KL1 w x wr) (ho : Only [] wr W) : KL1 w x W := h.next ho.below0

def smB (s t : Int) (L R : List Cl) : Bool := decide (s = t ∧ L = R)
theorem al (w : World) (o : Obj) : Below w.heap.size w (w.alloc o) := (Below.refl _ _).alloc (Nat.le_refl _) _
/-- What is known once the four lines are there. -/
structure KSh (w : World) (L E R : List Cl) (A An Ax Ay : Option Addr) (c cn cx cy N : Nat) (size z : Int) (bn bx bY bz : Nat) (W : World) : Prop where
  k : KL1 w #[.slice A L.length c, .int .i64 size] W
  n : Blk W bn 24 #[.slice An N cn, .int .i64 0]
  x : Blk W bx 24 #[.slice Ax N cx, .int .i64 size]
  y : Blk W bY 24 #[.slice Ay L.length cy, .int .i64 z]
  z : Blk W bz 24 #[.slice A L.length c, .int .i64 z]
  rl : RCells W A L
  rn : RCells W An E
  rx : RCells W Ax R
  ry : RCells W Ay L
section
variable {w : World} {L E R : List Cl} {A An Ax Ay : Option Addr} {c cn cx cy N : Nat} {size z : Int} {bn bx bY bz : Nat} {W W' : World}
theorem KSh.next (h : KSh w L E R A An Ax Ay c cn cx cy N size z bn bx bY bz W) (hb : Below W.heap.size W W') : KSh w L E R A An Ax Ay c cn cx cy N size z bn bx bY bz W' :=
  ⟨h.k.next hb, h.n.next hb, h.x.next hb, h.y.next hb, h.z.next hb, h.rl.next hb, h.rn.next hb, h.rx.next hb, h.ry.next hb⟩
theorem KSh.cells (h : KSh w L E R A An Ax Ay c cn cx cy N size z bn bx bY bz W) :
    (W.cell? ⟨w.heap.size, 0, none⟩ = some (.slice A L.length c) ∧ W.cell? ⟨w.heap.size, 1, none⟩ = some (.int .i64 size)) ∧
    (W.cell? ⟨bn, 0, none⟩ = some (.slice An N cn) ∧ W.cell? ⟨bn, 1, none⟩ = some (.int .i64 0)) ∧
    (W.cell? ⟨bx, 0, none⟩ = some (.slice Ax N cx) ∧ W.cell? ⟨bx, 1, none⟩ = some (.int .i64 size)) ∧
    (W.cell? ⟨bY, 0, none⟩ = some (.slice Ay L.length cy) ∧ W.cell? ⟨bY, 1, none⟩ = some (.int .i64 z)) ∧
    (W.cell? ⟨bz, 0, none⟩ = some (.slice A L.length c) ∧ W.cell? ⟨bz, 1, none⟩ = some (.int .i64 z)) :=
  ⟨⟨h.k.1.cell 0, h.k.1.cell 1⟩, ⟨h.n.cell 0, h.n.cell 1⟩, ⟨h.x.cell 0, h.x.cell 1⟩, ⟨h.y.cell 0, h.y.cell 1⟩, h.z.cell 0, h.z.cell 1⟩
end

set_option maxRecDepth 100000 in
set_option maxHeartbeats 16000000 in
theorem walk (A0 : Option Addr) (c0 : Nat) (l : List Cl) (size : Int) (hl : l.length ≤ maxLen) (hc0 : l.length ≤ c0) (cols s : Int) (w : World) (hr : RCells w A0 l) :
    Calls Try.prog 6 #[lineV A0 l.length c0 size, .int .i64 cols, .int .i64 s] w fun e w' => e = .returned (.bool true) ∧ Below w.heap.size w w' := by
  have HAw := Lib.hid (fun W => awake_any W)
  have HOwn0 := Lib.hid (fun W h => lawOwn_any A0 c0 l size hl hc0 W h)
  have hm : (l.take 300).length ≤ 300 := by rw [List.length_take]; omega
  have HOwn1 := Lib.hid (fun A c hc W h => lawOwn_any A c (l.take 300) size (by unfold maxLen; omega) hc W h)
  have ht : (l.take 300).take 300 = l.take 300 := List.take_of_length_le hm
  rw [ht] at HOwn1
  have HR := Lib.hid hr
  clear hr ht
  have HNew := Lib.hid (fun W => new_any cols W)
  have HRNew := Lib.hid (fun W => refNew_any cols W)
  rw [← show resP [] (colsP cols) = List.replicate (colsP cols) blankC from by simp [resP]] at HRNew
  have HRes := Lib.hid (fun A c W h => resize_any A c (l.take 300) size cols W h)
  have HRRes := Lib.hid (fun A c W h => refResize_any A c (l.take 300) size cols (by omega) W h)
  have HSz := Lib.hid (fun A c W h => sized_any A c (l.take 300) size s (by omega) W h)
  have HCp := Lib.hid (fun A c W h => copy_any A c (l.take 300) size (by omega) W h)
  have HSm := Lib.hid (fun (A B : Option Addr) (c d : Nat) (m : List Cl) (n : Nat) (hn : m.length = n) (hle : n ≤ 500) (t : Int) (W : World) (hr : RCells W A (l.take 300)) (hs : RCells W B m) => (by
    have := same_any A B c d (l.take 300) m size t (by unfold maxLen; omega) (by unfold maxLen; omega) W hr hs
    rw [hn] at this
    exact this : Calls Try.prog 31 #[lineV A (l.take 300).length c size, lineV B n d t] W fun e w' => e = .returned (.bool (smB size t (l.take 300) m)) ∧ Below W.heap.size W w'))
  have HRm := Lib.hid (fun (A B : Option Addr) (c d : Nat) (m : List Cl) (n : Nat) (hn : m.length = n) (hle : n ≤ 500) (t : Int) (W : World) (hr : RCells W A (l.take 300)) (hs : RCells W B m) => (by
    have := refSame_any A B c d (l.take 300) m size t (by unfold maxLen; omega) (by unfold maxLen; omega) W hr hs
    rw [hn] at this
    exact this : Calls Try.prog 12 #[lineV A (l.take 300).length c size, lineV B n d t] W fun e w' => e = .returned (.bool (smB size t (l.take 300) m)) ∧ Below W.heap.size W w'))
  have HRs := Lib.hid (fun (A B : Option Addr) (c d : Nat) (m : List Cl) (n : Nat) (hn : m.length = n) (hle : n ≤ 500) (t : Int) (W : World) (hr : RCells W A m) (hs : RCells W B m) => (by
    have := refSame_any A B c d m m t t (by unfold maxLen; omega) (by unfold maxLen; omega) W hr hs
    rw [show decide (t = t ∧ m = m) = true from by simp, hn] at this
    exact this : Calls Try.prog 12 #[lineV A n c t, lineV B n d t] W fun e w' => e = .returned (.bool true) ∧ Below W.heap.size W w'))
  have HWi := Lib.hid (fun (A : Option Addr) (c : Nat) (t : Int) (W : World) => width_any A (l.take 300).length c t (by omega) W)
  have HRWi := Lib.hid (fun (A : Option Addr) (c : Nat) (t : Int) (W : World) => refWidth_any A (l.take 300).length c t (by omega) W)
  have hN : colsP cols ≤ 500 := by unfold colsP; omega
  have hNl : (resP (l.take 300) (colsP cols)).length = colsP cols := by simp [resP]; omega
  have hNe : (resP ([] : List Cl) (colsP cols)).length = colsP cols := by simp [resP]
  have hz : (s < 0 ∧ sizedP s = 0) ∨ (3 < s ∧ sizedP s = 0) ∨ (¬ s < 0 ∧ ¬ 3 < s ∧ sizedP s = s) := by unfold sizedP; split <;> omega
  have HZ := Lib.hid hz
  clear hz
  generalize sizedP s = z at *
  generalize resP [] (colsP cols) = E at *
  generalize resP (l.take 300) (colsP cols) = R at *
  generalize colsP cols = N at *
  unfold lineV at *
  generalize l.length = n0 at *
  generalize l.take 300 = L at *
  have HK := Lib.hid (KL1.start w #[.slice A0 n0 c0, .int .i64 size])
  go_enter Try.func6, Try.ntmps6
  go_wp2_with fail
  refine (HAw.out _).mono ?_
  rintro e w1 ⟨rfl, hb1⟩
  have HK1 := Lib.hid (KL1.next HK.out hb1)
  clear hb1
  obtain ⟨c0', c1', _, _⟩ := KL1.all HK1.out
  go_wp2_with fail
  refine (HOwn0.out _ (HR.out.next HK1.out.2)).mono ?_
  rintro e w2 ⟨A, c, rfl, hown, hb2⟩
  have HK2 := Lib.hid (KL1.store1 (KL1.next HK1.out hb2) (.slice A L.length c) (.int .i64 size))
  have hcap := ocells_capX hown
  have HR2 := Lib.hid (OCells.reads (OCells.far (OCells.far hown (g := w.heap.size) (by have := HK1.out.2.size; omega) 0 (.slice A L.length c)) (g := w.heap.size) (by have := HK1.out.2.size; omega) 1 (.int .i64 size)))
  clear c0' c1'
  obtain ⟨c0', c1', f0, f1⟩ := KL1.all (KL1.next HK1.out hb2)
  clear hown hb2
  go_wp2_with fail
  clear c0' c1' f0 f1
  generalize (w2.setCell ⟨w.heap.size, 0, none⟩ (.slice A L.length c)).setCell ⟨w.heap.size, 1, none⟩ (.int .i64 size) = W2 at *
  clear HAw HOwn0 HR HK HK1
  have HC := Lib.hid (fun w' (h : Only [] W2 w') => KL1.all (KL1.only HK2.out h))
  refine wp_region_mix_lit (by kernel_rfl) [(1, .letter (LnP N 0) (LnF W2.heap.size E 0)), (3, .letter (LnP L.length size) (LnF W2.heap.size L size)), (5, .letter (LnP N size) (LnF W2.heap.size R size)), (7, .letter (LnP L.length size) (LnF W2.heap.size L size)), (9, .letter (LnP L.length z) (LnF W2.heap.size L z)), (10, .alloc 13 24 #[.slice none 0 0, .int .i64 0] (fun β => unAgg (β 1))), (11, .alloc 14 24 #[.slice none 0 0, .int .i64 0] (fun β => unAgg (β 5))), (12, .alloc 15 24 #[.slice none 0 0, .int .i64 0] (fun β => unAgg (β 9))), (13, .init 10), (14, .init 11), (15, .init 12)] (by kernel_rfl) (by kernel_rfl) (by kernel_rfl) (by rfl) (by simp [apartK] <;> omega) (by simp [startK]) (by repeat (first | (refine List.forall_mem_cons.2 ⟨?_, ?_⟩; (first | exact trivial | exact lnF_stab _ _ _ _ (by simp [boxes, Kind.boxed]))) | (intro x hx; cases hx; done))) (⟨fun i => if i = 1 then lineV none N N 0 else if i = 3 then lineV none L.length L.length size else if i = 5 then lineV none N N size else if i = 7 then lineV none L.length L.length size else if i = 9 then lineV none L.length L.length z else .pointer (some ⟨W2.heap.size, 0, none⟩), by repeat (first | (refine List.forall_mem_cons.2 ⟨?_, ?_⟩; (first | exact trivial | exact ⟨none, _, rfl, Nat.le_refl _⟩ | exact ⟨_, rfl, Nat.le_refl _⟩)) | (intro x hx; cases hx; done))⟩) (fun β hβ => ?_)
  obtain ⟨An, cn, e1, hcn⟩ := (hβ 1 : LnP N 0 (β 1))
  obtain ⟨A1, c1, e2, _⟩ := (hβ 3 : LnP L.length size (β 3))
  obtain ⟨Ax, cx, e3, hcx⟩ := (hβ 5 : LnP N size (β 5))
  obtain ⟨A2, c2, e4, _⟩ := (hβ 7 : LnP L.length size (β 7))
  obtain ⟨Ay, cy, e5, hcy⟩ := (hβ 9 : LnP L.length z (β 9))
  unfold lineV at e1 e2 e3 e4 e5
  repeat (
    refine lex_val (v := ?_) rfl rfl (fun w' hf => ?_) ?_
    rotate_left
    · obtain ⟨c0', c1', _, _⟩ := HC.out w' hf.only; go_simp
      try rfl
    try simp only [Act.put, List.setIfInBounds_toArray, List.set_cons_zero, List.set_cons_succ])
  refine lex_letter (f := 24) (args := ?_) rfl rfl (fun w' hf => ?_) (fun w' hf => ?_) ?_
  rotate_left
  · go_simp
    try rfl
  · exact ln_row hf.only.size hNe.symm (by omega) (HNew.out w')
  try simp only [Act.put, List.setIfInBounds_toArray, List.set_cons_zero, List.set_cons_succ]
  repeat (
    refine lex_val (v := ?_) rfl rfl (fun w' hf => ?_) ?_
    rotate_left
    · obtain ⟨c0', c1', _, _⟩ := HC.out w' hf.only; go_simp
      try rfl
    try simp only [Act.put, List.setIfInBounds_toArray, List.set_cons_zero, List.set_cons_succ])
  refine lex_letter (f := 9) (args := ?_) rfl rfl (fun w' hf => ?_) (fun w' hf => ?_) ?_
  rotate_left
  · go_simp
    try rfl
  · exact ln_own (by have := hf.only.size; omega) rfl (HOwn1.out A c hcap w' (HR2.out.next hf.only.below0))
  try simp only [Act.put, List.setIfInBounds_toArray, List.set_cons_zero, List.set_cons_succ]
  repeat (
    refine lex_val (v := ?_) rfl rfl (fun w' hf => ?_) ?_
    rotate_left
    · obtain ⟨c0', c1', _, _⟩ := HC.out w' hf.only; go_simp
      try rfl
    try simp only [Act.put, List.setIfInBounds_toArray, List.set_cons_zero, List.set_cons_succ])
  refine lex_letter (f := 25) (args := ?_) rfl rfl (fun w' hf => ?_) (fun w' hf => ?_) ?_
  rotate_left
  · go_simp
    try rfl
  · exact ln_row hf.only.size hNl.symm (by omega) (HRes.out A1 c1 w' (LnF.reads (A := A1) (c := c1) rfl (by have := hf.got 3 _ _ rfl (by kernel_rfl); rw [e2] at this; exact this)))
  try simp only [Act.put, List.setIfInBounds_toArray, List.set_cons_zero, List.set_cons_succ]
  repeat (
    refine lex_val (v := ?_) rfl rfl (fun w' hf => ?_) ?_
    rotate_left
    · obtain ⟨c0', c1', _, _⟩ := HC.out w' hf.only; go_simp
      try rfl
    try simp only [Act.put, List.setIfInBounds_toArray, List.set_cons_zero, List.set_cons_succ])
  refine lex_letter (f := 9) (args := ?_) rfl rfl (fun w' hf => ?_) (fun w' hf => ?_) ?_
  rotate_left
  · go_simp
    try rfl
  · exact ln_own (by have := hf.only.size; omega) rfl (HOwn1.out A c hcap w' (HR2.out.next hf.only.below0))
  try simp only [Act.put, List.setIfInBounds_toArray, List.set_cons_zero, List.set_cons_succ]
  repeat (
    refine lex_val (v := ?_) rfl rfl (fun w' hf => ?_) ?_
    rotate_left
    · obtain ⟨c0', c1', _, _⟩ := HC.out w' hf.only; go_simp
      try rfl
    try simp only [Act.put, List.setIfInBounds_toArray, List.set_cons_zero, List.set_cons_succ])
  refine lex_letter (f := 26) (args := ?_) rfl rfl (fun w' hf => ?_) (fun w' hf => ?_) ?_
  rotate_left
  · go_simp
    try rfl
  · exact ln_row hf.only.size rfl (by omega) (HSz.out A2 c2 w' (LnF.reads (A := A2) (c := c2) rfl (by have := hf.got 7 _ _ rfl (by kernel_rfl); rw [e4] at this; exact this)))
  try simp only [Act.put, List.setIfInBounds_toArray, List.set_cons_zero, List.set_cons_succ]
  refine lex_alloc rfl rfl (fun w' => ?_) ?_
  · go_simp
  try simp only [Act.put, List.setIfInBounds_toArray, List.set_cons_zero, List.set_cons_succ]
  refine lex_alloc rfl rfl (fun w' => ?_) ?_
  · go_simp
  try simp only [Act.put, List.setIfInBounds_toArray, List.set_cons_zero, List.set_cons_succ]
  refine lex_alloc rfl rfl (fun w' => ?_) ?_
  · go_simp
  try simp only [Act.put, List.setIfInBounds_toArray, List.set_cons_zero, List.set_cons_succ]
  refine lex_init rfl rfl rfl (fun b w' hb hf hB => ⟨_, ?_, (repl2 hB (.slice An N cn) (.int .i64 0)).to (by rw [e1]; rfl)⟩) ?_
  · have gB := cells2 hB
    go_simp
  try simp only [Act.put]
  refine lex_init rfl rfl rfl (fun b w' hb hf hB => ⟨_, ?_, (repl2 hB (.slice Ax N cx) (.int .i64 size)).to (by rw [e3]; rfl)⟩) ?_
  · have gB := cells2 hB
    go_simp
  try simp only [Act.put]
  refine lex_init rfl rfl rfl (fun b w' hb hf hB => ⟨_, ?_, (repl2 hB (.slice Ay L.length cy) (.int .i64 z)).to (by rw [e5]; rfl)⟩) ?_
  · have gB := cells2 hB
    go_simp
  try simp only [Act.put]
  refine lex_nil fun w3 he => ?_
  obtain ⟨bn, hbn, _, hkn⟩ := he.facts 10
  obtain ⟨bx, hbx, _, hkx⟩ := he.facts 11
  obtain ⟨bY, hbY, _, hky⟩ := he.facts 12
  replace hkn : Blk w3 bn 24 (unAgg (β 1)) := hkn
  replace hkx : Blk w3 bx 24 (unAgg (β 5)) := hkx
  replace hky : Blk w3 bY 24 (unAgg (β 9)) := hky
  rw [e1] at hkn
  rw [e3] at hkx
  rw [e5] at hky
  have hRn := LnF.reads (A := An) (c := cn) hNe.symm (by have := (he.facts 1).2; rw [e1] at this; exact this)
  have hRx := LnF.reads (A := Ax) (c := cx) hNl.symm (by have := (he.facts 5).2; rw [e3] at this; exact this)
  have hRy := LnF.reads (A := Ay) (c := cy) rfl (by have := (he.facts 9).2; rw [e5] at this; exact this)
  have HK3 := Lib.hid (And.intro (KL1.only HK2.out he.only) (And.intro (HR2.out.next he.only.below0) (And.intro (And.intro (show Blk w3 bn 24 #[.slice An N cn, .int .i64 0] from hkn) (And.intro (show Blk w3 bx 24 #[.slice Ax N cx, .int .i64 size] from hkx) (show Blk w3 bY 24 #[.slice Ay L.length cy, .int .i64 z] from hky))) (And.intro hRn (And.intro hRx hRy)))))
  rw [hbn, hbx, hbY]
  clear he hβ hkn hkx hky hRn hRx hRy e1 e2 e3 e4 e5 HK2 HR2 HC HNew HRes HSz
  obtain ⟨c0', c1', _, _⟩ := KL1.all HK3.out.1
  have HP : ∀ v : Value, v = .int .i64 z → KSh w L E R A An Ax Ay c cn cx cy N size z bn bx bY w3.heap.size (w3.alloc (.cells #[.slice A L.length c, v] 24)) := fun v hv => by
    subst hv
    exact ⟨HK3.out.1.next (al _ _), HK3.out.2.2.1.1.next (al _ _), HK3.out.2.2.1.2.1.next (al _ _), HK3.out.2.2.1.2.2.next (al _ _), Blk.new w3 _ _, HK3.out.2.1.next (al _ _), HK3.out.2.2.2.1.next (al _ _), HK3.out.2.2.2.2.1.next (al _ _), HK3.out.2.2.2.2.2.next (al _ _)⟩
  replace HP := Lib.hid HP
  clear HK3
  obtain ⟨b1, hb1⟩ : ∃ b, b = smB size size L R := ⟨_, rfl⟩
  obtain ⟨b2, hb2⟩ : ∃ b, b = smB size z L L := ⟨_, rfl⟩
  have HB1 := Lib.hid hb1
  have HB2 := Lib.hid hb2
  clear hb1 hb2
  have HZ' := HZ.out
  clear HZ
  rcases HZ' with ⟨z1, ez⟩ | ⟨z1, ez⟩ | ⟨z1, z2, ez⟩
  · have z3 : (s < 0) = True := eq_true z1
    have hz := Lib.hid (congrArg (Value.int .i64) ez.symm)
    clear ez
    go_wp2_with fail
    refine world_gen (KSh w L E R A An Ax Ay c cn cx cy N size z bn bx bY w3.heap.size) (HP.out _ hz.out) ?_
    intro W4 HK4
    replace HK4 := Lib.hid HK4
    clear HP hz
    refine wp_region_mix_lit (by kernel_rfl) [(2, .letter (LnP N 0) (LnF W4.heap.size E 0)), (3, .call (.bool true)), (9, .letter (LnP N size) (LnF W4.heap.size R size)), (10, .call (.bool true)), (16, .call (.bool true)), (21, .call (.int .i64 (widthP L.length size))), (23, .call (.int .i64 (widthP L.length size))), (28, .call (.int .i64 (widthP L.length z))), (30, .call (.int .i64 (widthP L.length z)))] (by kernel_rfl) (by kernel_rfl) (by kernel_rfl) (by rfl) (by simp [apartK] <;> omega) (by simp [startK]) (by repeat (first | (refine List.forall_mem_cons.2 ⟨?_, ?_⟩; (first | exact trivial | exact lnF_stab _ _ _ _ (by simp [boxes, Kind.boxed]))) | (intro x hx; cases hx; done))) (⟨fun i => if i = 2 then lineV none N N 0 else lineV none N N size, by repeat (first | (refine List.forall_mem_cons.2 ⟨?_, ?_⟩; (first | exact trivial | exact ⟨none, _, rfl, Nat.le_refl _⟩ | exact ⟨_, rfl, Nat.le_refl _⟩)) | (intro x hx; cases hx; done))⟩) (fun β hβ => ?_)
    obtain ⟨A1, c1, e1, _⟩ := (hβ 2 : LnP N 0 (β 2))
    obtain ⟨A2, c2, e2, _⟩ := (hβ 9 : LnP N size (β 9))
    unfold lineV at e1 e2
    repeat (
      refine lex_val (v := ?_) rfl rfl (fun w' hf => ?_) ?_
      rotate_left
      · obtain ⟨⟨c0, c1⟩, ⟨d0, d1⟩, ⟨f0, f1⟩, ⟨g0, g1⟩, k0, k1⟩ := (HK4.out.next hf.only.below0).cells; go_simp
        try rfl
      try simp only [Act.put, List.setIfInBounds_toArray, List.set_cons_zero, List.set_cons_succ])
    refine lex_letter (f := 27) (args := ?_) rfl rfl (fun w' hf => ?_) (fun w' hf => ?_) ?_
    rotate_left
    · go_simp
      try rfl
    · exact ln_own (by have := hf.only.size; omega) hNe.symm (HRNew.out w')
    try simp only [Act.put, List.setIfInBounds_toArray, List.set_cons_zero, List.set_cons_succ]
    repeat (
      refine lex_val (v := ?_) rfl rfl (fun w' hf => ?_) ?_
      rotate_left
      · obtain ⟨⟨c0, c1⟩, ⟨d0, d1⟩, ⟨f0, f1⟩, ⟨g0, g1⟩, k0, k1⟩ := (HK4.out.next hf.only.below0).cells; go_simp
        try rfl
      try simp only [Act.put, List.setIfInBounds_toArray, List.set_cons_zero, List.set_cons_succ])
    refine lex_call (f := 12) (args := ?_) rfl rfl (fun w' hf => ?_) (fun w' hf => ?_) ?_
    rotate_left
    · go_simp
      try rfl
    · exact HRs.out An A1 cn c1 E N hNe hN 0 w' (HK4.out.next hf.only.below0).rn (LnF.reads (A := A1) (c := c1) hNe.symm (by have := hf.got 2 _ _ rfl (by kernel_rfl); rw [e1] at this; exact this))
    try simp only [Act.put, List.setIfInBounds_toArray, List.set_cons_zero, List.set_cons_succ]
    repeat (
      refine lex_val (v := ?_) rfl rfl (fun w' hf => ?_) ?_
      rotate_left
      · obtain ⟨⟨c0, c1⟩, ⟨d0, d1⟩, ⟨f0, f1⟩, ⟨g0, g1⟩, k0, k1⟩ := (HK4.out.next hf.only.below0).cells; go_simp
        try rfl
      try simp only [Act.put, List.setIfInBounds_toArray, List.set_cons_zero, List.set_cons_succ])
    refine lex_letter (f := 28) (args := ?_) rfl rfl (fun w' hf => ?_) (fun w' hf => ?_) ?_
    rotate_left
    · go_simp
      try rfl
    · exact ln_own hf.only.size hNl.symm (HRRes.out A c w' (HK4.out.next hf.only.below0).rl)
    try simp only [Act.put, List.setIfInBounds_toArray, List.set_cons_zero, List.set_cons_succ]
    repeat (
      refine lex_val (v := ?_) rfl rfl (fun w' hf => ?_) ?_
      rotate_left
      · obtain ⟨⟨c0, c1⟩, ⟨d0, d1⟩, ⟨f0, f1⟩, ⟨g0, g1⟩, k0, k1⟩ := (HK4.out.next hf.only.below0).cells; go_simp
        try rfl
      try simp only [Act.put, List.setIfInBounds_toArray, List.set_cons_zero, List.set_cons_succ])
    refine lex_call (f := 12) (args := ?_) rfl rfl (fun w' hf => ?_) (fun w' hf => ?_) ?_
    rotate_left
    · go_simp
      try rfl
    · exact HRs.out Ax A2 cx c2 R N hNl hN size w' (HK4.out.next hf.only.below0).rx (LnF.reads (A := A2) (c := c2) hNl.symm (by have := hf.got 9 _ _ rfl (by kernel_rfl); rw [e2] at this; exact this))
    try simp only [Act.put, List.setIfInBounds_toArray, List.set_cons_zero, List.set_cons_succ]
    repeat (
      refine lex_val (v := ?_) rfl rfl (fun w' hf => ?_) ?_
      rotate_left
      · obtain ⟨⟨c0, c1⟩, ⟨d0, d1⟩, ⟨f0, f1⟩, ⟨g0, g1⟩, k0, k1⟩ := (HK4.out.next hf.only.below0).cells; go_simp
        try rfl
      try simp only [Act.put, List.setIfInBounds_toArray, List.set_cons_zero, List.set_cons_succ])
    refine lex_call (f := 12) (args := ?_) rfl rfl (fun w' hf => ?_) (fun w' hf => ?_) ?_
    rotate_left
    · go_simp
      try rfl
    · exact HRs.out Ay A cy c L L.length rfl (by omega) z w' (HK4.out.next hf.only.below0).ry (HK4.out.next hf.only.below0).rl
    try simp only [Act.put, List.setIfInBounds_toArray, List.set_cons_zero, List.set_cons_succ]
    repeat (
      refine lex_val (v := ?_) rfl rfl (fun w' hf => ?_) ?_
      rotate_left
      · obtain ⟨⟨c0, c1⟩, ⟨d0, d1⟩, ⟨f0, f1⟩, ⟨g0, g1⟩, k0, k1⟩ := (HK4.out.next hf.only.below0).cells; go_simp
        try rfl
      try simp only [Act.put, List.setIfInBounds_toArray, List.set_cons_zero, List.set_cons_succ])
    refine lex_call (f := 29) (args := ?_) rfl rfl (fun w' hf => ?_) (fun w' hf => ?_) ?_
    rotate_left
    · go_simp
      try rfl
    · exact HWi.out A c size w'
    try simp only [Act.put, List.setIfInBounds_toArray, List.set_cons_zero, List.set_cons_succ]
    repeat (
      refine lex_val (v := ?_) rfl rfl (fun w' hf => ?_) ?_
      rotate_left
      · obtain ⟨⟨c0, c1⟩, ⟨d0, d1⟩, ⟨f0, f1⟩, ⟨g0, g1⟩, k0, k1⟩ := (HK4.out.next hf.only.below0).cells; go_simp
        try rfl
      try simp only [Act.put, List.setIfInBounds_toArray, List.set_cons_zero, List.set_cons_succ])
    refine lex_call (f := 30) (args := ?_) rfl rfl (fun w' hf => ?_) (fun w' hf => ?_) ?_
    rotate_left
    · go_simp
      try rfl
    · exact HRWi.out A c size w'
    try simp only [Act.put, List.setIfInBounds_toArray, List.set_cons_zero, List.set_cons_succ]
    repeat (
      refine lex_val (v := ?_) rfl rfl (fun w' hf => ?_) ?_
      rotate_left
      · obtain ⟨⟨c0, c1⟩, ⟨d0, d1⟩, ⟨f0, f1⟩, ⟨g0, g1⟩, k0, k1⟩ := (HK4.out.next hf.only.below0).cells; go_simp
        try rfl
      try simp only [Act.put, List.setIfInBounds_toArray, List.set_cons_zero, List.set_cons_succ])
    refine lex_call (f := 29) (args := ?_) rfl rfl (fun w' hf => ?_) (fun w' hf => ?_) ?_
    rotate_left
    · go_simp
      try rfl
    · exact HWi.out Ay cy z w'
    try simp only [Act.put, List.setIfInBounds_toArray, List.set_cons_zero, List.set_cons_succ]
    repeat (
      refine lex_val (v := ?_) rfl rfl (fun w' hf => ?_) ?_
      rotate_left
      · obtain ⟨⟨c0, c1⟩, ⟨d0, d1⟩, ⟨f0, f1⟩, ⟨g0, g1⟩, k0, k1⟩ := (HK4.out.next hf.only.below0).cells; go_simp
        try rfl
      try simp only [Act.put, List.setIfInBounds_toArray, List.set_cons_zero, List.set_cons_succ])
    refine lex_call (f := 30) (args := ?_) rfl rfl (fun w' hf => ?_) (fun w' hf => ?_) ?_
    rotate_left
    · go_simp
      try rfl
    · exact HRWi.out A c z w'
    try simp only [Act.put, List.setIfInBounds_toArray, List.set_cons_zero, List.set_cons_succ]
    repeat (
      refine lex_val (v := ?_) rfl rfl (fun w' hf => ?_) ?_
      rotate_left
      · obtain ⟨⟨c0, c1⟩, ⟨d0, d1⟩, ⟨f0, f1⟩, ⟨g0, g1⟩, k0, k1⟩ := (HK4.out.next hf.only.below0).cells; go_simp
        try rfl
      try simp only [Act.put, List.setIfInBounds_toArray, List.set_cons_zero, List.set_cons_succ])
    refine lex_nil fun w5 he => ?_
    have HK5 := Lib.hid (HK4.out.next he.only.below0)
    clear he hβ HK4 e1 e2
    go_wp2_with fail
    refine wp_region_mix_lit (by kernel_rfl) [(2, .call (.bool b1)), (5, .call (.bool b1)), (10, .call (.bool b2)), (13, .call (.bool b2)), (19, .letter (LnP L.length size) (LnF w5.heap.size L size)), (20, .letter (LnP L.length size) (LnF w5.heap.size L size)), (21, .call (.bool true))] (by kernel_rfl) (by kernel_rfl) (by kernel_rfl) (by rfl) (by simp [apartK] <;> omega) (by simp [startK]) (by repeat (first | (refine List.forall_mem_cons.2 ⟨?_, ?_⟩; (first | exact trivial | exact lnF_stab _ _ _ _ (by simp [boxes, Kind.boxed]))) | (intro x hx; cases hx; done))) (⟨fun i => lineV none L.length L.length size, by repeat (first | (refine List.forall_mem_cons.2 ⟨?_, ?_⟩; (first | exact trivial | exact ⟨none, _, rfl, Nat.le_refl _⟩ | exact ⟨_, rfl, Nat.le_refl _⟩)) | (intro x hx; cases hx; done))⟩) (fun β hβ => ?_)
    obtain ⟨A1, c1, e1, _⟩ := (hβ 19 : LnP L.length size (β 19))
    obtain ⟨A2, c2, e2, _⟩ := (hβ 20 : LnP L.length size (β 20))
    unfold lineV at e1 e2
    repeat (
      refine lex_val (v := ?_) rfl rfl (fun w' hf => ?_) ?_
      rotate_left
      · obtain ⟨⟨c0, c1⟩, ⟨d0, d1⟩, ⟨f0, f1⟩, ⟨g0, g1⟩, k0, k1⟩ := (HK5.out.next hf.only.below0).cells; go_simp
        try rfl
      try simp only [Act.put, List.setIfInBounds_toArray, List.set_cons_zero, List.set_cons_succ])
    refine lex_call (f := 31) (args := ?_) rfl rfl (fun w' hf => ?_) (fun w' hf => ?_) ?_
    rotate_left
    · go_simp
      try rfl
    · exact (by rw [HB1.out]; exact HSm.out A Ax c cx R N hNl hN size w' (HK5.out.next hf.only.below0).rl (HK5.out.next hf.only.below0).rx)
    try simp only [Act.put, List.setIfInBounds_toArray, List.set_cons_zero, List.set_cons_succ]
    repeat (
      refine lex_val (v := ?_) rfl rfl (fun w' hf => ?_) ?_
      rotate_left
      · obtain ⟨⟨c0, c1⟩, ⟨d0, d1⟩, ⟨f0, f1⟩, ⟨g0, g1⟩, k0, k1⟩ := (HK5.out.next hf.only.below0).cells; go_simp
        try rfl
      try simp only [Act.put, List.setIfInBounds_toArray, List.set_cons_zero, List.set_cons_succ])
    refine lex_call (f := 12) (args := ?_) rfl rfl (fun w' hf => ?_) (fun w' hf => ?_) ?_
    rotate_left
    · go_simp
      try rfl
    · exact (by rw [HB1.out]; exact HRm.out A Ax c cx R N hNl hN size w' (HK5.out.next hf.only.below0).rl (HK5.out.next hf.only.below0).rx)
    try simp only [Act.put, List.setIfInBounds_toArray, List.set_cons_zero, List.set_cons_succ]
    repeat (
      refine lex_val (v := ?_) rfl rfl (fun w' hf => ?_) ?_
      rotate_left
      · obtain ⟨⟨c0, c1⟩, ⟨d0, d1⟩, ⟨f0, f1⟩, ⟨g0, g1⟩, k0, k1⟩ := (HK5.out.next hf.only.below0).cells; go_simp
        try rfl
      try simp only [Act.put, List.setIfInBounds_toArray, List.set_cons_zero, List.set_cons_succ])
    refine lex_call (f := 31) (args := ?_) rfl rfl (fun w' hf => ?_) (fun w' hf => ?_) ?_
    rotate_left
    · go_simp
      try rfl
    · exact (by rw [HB2.out]; exact HSm.out A Ay c cy L L.length rfl (by omega) z w' (HK5.out.next hf.only.below0).rl (HK5.out.next hf.only.below0).ry)
    try simp only [Act.put, List.setIfInBounds_toArray, List.set_cons_zero, List.set_cons_succ]
    repeat (
      refine lex_val (v := ?_) rfl rfl (fun w' hf => ?_) ?_
      rotate_left
      · obtain ⟨⟨c0, c1⟩, ⟨d0, d1⟩, ⟨f0, f1⟩, ⟨g0, g1⟩, k0, k1⟩ := (HK5.out.next hf.only.below0).cells; go_simp
        try rfl
      try simp only [Act.put, List.setIfInBounds_toArray, List.set_cons_zero, List.set_cons_succ])
    refine lex_call (f := 12) (args := ?_) rfl rfl (fun w' hf => ?_) (fun w' hf => ?_) ?_
    rotate_left
    · go_simp
      try rfl
    · exact (by rw [HB2.out]; exact HRm.out A Ay c cy L L.length rfl (by omega) z w' (HK5.out.next hf.only.below0).rl (HK5.out.next hf.only.below0).ry)
    try simp only [Act.put, List.setIfInBounds_toArray, List.set_cons_zero, List.set_cons_succ]
    repeat (
      refine lex_val (v := ?_) rfl rfl (fun w' hf => ?_) ?_
      rotate_left
      · obtain ⟨⟨c0, c1⟩, ⟨d0, d1⟩, ⟨f0, f1⟩, ⟨g0, g1⟩, k0, k1⟩ := (HK5.out.next hf.only.below0).cells; go_simp
        try rfl
      try simp only [Act.put, List.setIfInBounds_toArray, List.set_cons_zero, List.set_cons_succ])
    refine lex_letter (f := 9) (args := ?_) rfl rfl (fun w' hf => ?_) (fun w' hf => ?_) ?_
    rotate_left
    · go_simp
      try rfl
    · exact ln_own (by have := hf.only.size; omega) rfl (HOwn1.out A c hcap w' (HK5.out.next hf.only.below0).rl)
    try simp only [Act.put, List.setIfInBounds_toArray, List.set_cons_zero, List.set_cons_succ]
    repeat (
      refine lex_val (v := ?_) rfl rfl (fun w' hf => ?_) ?_
      rotate_left
      · obtain ⟨⟨c0, c1⟩, ⟨d0, d1⟩, ⟨f0, f1⟩, ⟨g0, g1⟩, k0, k1⟩ := (HK5.out.next hf.only.below0).cells; go_simp
        try rfl
      try simp only [Act.put, List.setIfInBounds_toArray, List.set_cons_zero, List.set_cons_succ])
    refine lex_letter (f := 32) (args := ?_) rfl rfl (fun w' hf => ?_) (fun w' hf => ?_) ?_
    rotate_left
    · go_simp
      try rfl
    · exact ln_row hf.only.size rfl (by omega) (HCp.out A1 c1 w' (LnF.reads (A := A1) (c := c1) rfl (by have := hf.got 19 _ _ rfl (by kernel_rfl); rw [e1] at this; exact this)))
    try simp only [Act.put, List.setIfInBounds_toArray, List.set_cons_zero, List.set_cons_succ]
    repeat (
      refine lex_val (v := ?_) rfl rfl (fun w' hf => ?_) ?_
      rotate_left
      · obtain ⟨⟨c0, c1⟩, ⟨d0, d1⟩, ⟨f0, f1⟩, ⟨g0, g1⟩, k0, k1⟩ := (HK5.out.next hf.only.below0).cells; go_simp
        try rfl
      try simp only [Act.put, List.setIfInBounds_toArray, List.set_cons_zero, List.set_cons_succ])
    refine lex_call (f := 31) (args := ?_) rfl rfl (fun w' hf => ?_) (fun w' hf => ?_) ?_
    rotate_left
    · go_simp
      try rfl
    · exact (by have hh := HSm.out A A2 c c2 L L.length rfl (by omega) size w' (HK5.out.next hf.only.below0).rl (LnF.reads (A := A2) (c := c2) rfl (by have := hf.got 20 _ _ rfl (by kernel_rfl); rw [e2] at this; exact this)); rw [show smB size size L L = true from by simp [smB]] at hh; exact hh)
    try simp only [Act.put, List.setIfInBounds_toArray, List.set_cons_zero, List.set_cons_succ]
    repeat (
      refine lex_val (v := ?_) rfl rfl (fun w' hf => ?_) ?_
      rotate_left
      · obtain ⟨⟨c0, c1⟩, ⟨d0, d1⟩, ⟨f0, f1⟩, ⟨g0, g1⟩, k0, k1⟩ := (HK5.out.next hf.only.below0).cells; go_simp
        try rfl
      try simp only [Act.put, List.setIfInBounds_toArray, List.set_cons_zero, List.set_cons_succ])
    refine lex_nil fun w6 he => ?_
    have hb6 := (HK5.out.next he.only.below0).k.2
    clear he hβ HK5 e1 e2
    go_wp2_with fail
    go_ret
    exact ⟨rfl, hb6⟩
  · have z3 : (s < 0) = False := eq_false (by omega)
    have z4 : (3 < s) = True := eq_true z1
    have z5 : (s > 3) = True := eq_true z1
    have hz := Lib.hid (congrArg (Value.int .i64) ez.symm)
    clear ez
    go_wp2_with fail
    refine world_gen (KSh w L E R A An Ax Ay c cn cx cy N size z bn bx bY w3.heap.size) (HP.out _ hz.out) ?_
    intro W4 HK4
    replace HK4 := Lib.hid HK4
    clear HP hz
    refine wp_region_mix_lit (by kernel_rfl) [(2, .letter (LnP N 0) (LnF W4.heap.size E 0)), (3, .call (.bool true)), (9, .letter (LnP N size) (LnF W4.heap.size R size)), (10, .call (.bool true)), (16, .call (.bool true)), (21, .call (.int .i64 (widthP L.length size))), (23, .call (.int .i64 (widthP L.length size))), (28, .call (.int .i64 (widthP L.length z))), (30, .call (.int .i64 (widthP L.length z)))] (by kernel_rfl) (by kernel_rfl) (by kernel_rfl) (by rfl) (by simp [apartK] <;> omega) (by simp [startK]) (by repeat (first | (refine List.forall_mem_cons.2 ⟨?_, ?_⟩; (first | exact trivial | exact lnF_stab _ _ _ _ (by simp [boxes, Kind.boxed]))) | (intro x hx; cases hx; done))) (⟨fun i => if i = 2 then lineV none N N 0 else lineV none N N size, by repeat (first | (refine List.forall_mem_cons.2 ⟨?_, ?_⟩; (first | exact trivial | exact ⟨none, _, rfl, Nat.le_refl _⟩ | exact ⟨_, rfl, Nat.le_refl _⟩)) | (intro x hx; cases hx; done))⟩) (fun β hβ => ?_)
    obtain ⟨A1, c1, e1, _⟩ := (hβ 2 : LnP N 0 (β 2))
    obtain ⟨A2, c2, e2, _⟩ := (hβ 9 : LnP N size (β 9))
    unfold lineV at e1 e2
    repeat (
      refine lex_val (v := ?_) rfl rfl (fun w' hf => ?_) ?_
      rotate_left
      · obtain ⟨⟨c0, c1⟩, ⟨d0, d1⟩, ⟨f0, f1⟩, ⟨g0, g1⟩, k0, k1⟩ := (HK4.out.next hf.only.below0).cells; go_simp
        try rfl
      try simp only [Act.put, List.setIfInBounds_toArray, List.set_cons_zero, List.set_cons_succ])
    refine lex_letter (f := 27) (args := ?_) rfl rfl (fun w' hf => ?_) (fun w' hf => ?_) ?_
    rotate_left
    · go_simp
      try rfl
    · exact ln_own (by have := hf.only.size; omega) hNe.symm (HRNew.out w')
    try simp only [Act.put, List.setIfInBounds_toArray, List.set_cons_zero, List.set_cons_succ]
    repeat (
      refine lex_val (v := ?_) rfl rfl (fun w' hf => ?_) ?_
      rotate_left
      · obtain ⟨⟨c0, c1⟩, ⟨d0, d1⟩, ⟨f0, f1⟩, ⟨g0, g1⟩, k0, k1⟩ := (HK4.out.next hf.only.below0).cells; go_simp
        try rfl
      try simp only [Act.put, List.setIfInBounds_toArray, List.set_cons_zero, List.set_cons_succ])
    refine lex_call (f := 12) (args := ?_) rfl rfl (fun w' hf => ?_) (fun w' hf => ?_) ?_
    rotate_left
    · go_simp
      try rfl
    · exact HRs.out An A1 cn c1 E N hNe hN 0 w' (HK4.out.next hf.only.below0).rn (LnF.reads (A := A1) (c := c1) hNe.symm (by have := hf.got 2 _ _ rfl (by kernel_rfl); rw [e1] at this; exact this))
    try simp only [Act.put, List.setIfInBounds_toArray, List.set_cons_zero, List.set_cons_succ]
    repeat (
      refine lex_val (v := ?_) rfl rfl (fun w' hf => ?_) ?_
      rotate_left
      · obtain ⟨⟨c0, c1⟩, ⟨d0, d1⟩, ⟨f0, f1⟩, ⟨g0, g1⟩, k0, k1⟩ := (HK4.out.next hf.only.below0).cells; go_simp
        try rfl
      try simp only [Act.put, List.setIfInBounds_toArray, List.set_cons_zero, List.set_cons_succ])
    refine lex_letter (f := 28) (args := ?_) rfl rfl (fun w' hf => ?_) (fun w' hf => ?_) ?_
    rotate_left
    · go_simp
      try rfl
    · exact ln_own hf.only.size hNl.symm (HRRes.out A c w' (HK4.out.next hf.only.below0).rl)
    try simp only [Act.put, List.setIfInBounds_toArray, List.set_cons_zero, List.set_cons_succ]
    repeat (
      refine lex_val (v := ?_) rfl rfl (fun w' hf => ?_) ?_
      rotate_left
      · obtain ⟨⟨c0, c1⟩, ⟨d0, d1⟩, ⟨f0, f1⟩, ⟨g0, g1⟩, k0, k1⟩ := (HK4.out.next hf.only.below0).cells; go_simp
        try rfl
      try simp only [Act.put, List.setIfInBounds_toArray, List.set_cons_zero, List.set_cons_succ])
    refine lex_call (f := 12) (args := ?_) rfl rfl (fun w' hf => ?_) (fun w' hf => ?_) ?_
    rotate_left
    · go_simp
      try rfl
    · exact HRs.out Ax A2 cx c2 R N hNl hN size w' (HK4.out.next hf.only.below0).rx (LnF.reads (A := A2) (c := c2) hNl.symm (by have := hf.got 9 _ _ rfl (by kernel_rfl); rw [e2] at this; exact this))
    try simp only [Act.put, List.setIfInBounds_toArray, List.set_cons_zero, List.set_cons_succ]
    repeat (
      refine lex_val (v := ?_) rfl rfl (fun w' hf => ?_) ?_
      rotate_left
      · obtain ⟨⟨c0, c1⟩, ⟨d0, d1⟩, ⟨f0, f1⟩, ⟨g0, g1⟩, k0, k1⟩ := (HK4.out.next hf.only.below0).cells; go_simp
        try rfl
      try simp only [Act.put, List.setIfInBounds_toArray, List.set_cons_zero, List.set_cons_succ])
    refine lex_call (f := 12) (args := ?_) rfl rfl (fun w' hf => ?_) (fun w' hf => ?_) ?_
    rotate_left
    · go_simp
      try rfl
    · exact HRs.out Ay A cy c L L.length rfl (by omega) z w' (HK4.out.next hf.only.below0).ry (HK4.out.next hf.only.below0).rl
    try simp only [Act.put, List.setIfInBounds_toArray, List.set_cons_zero, List.set_cons_succ]
    repeat (
      refine lex_val (v := ?_) rfl rfl (fun w' hf => ?_) ?_
      rotate_left
      · obtain ⟨⟨c0, c1⟩, ⟨d0, d1⟩, ⟨f0, f1⟩, ⟨g0, g1⟩, k0, k1⟩ := (HK4.out.next hf.only.below0).cells; go_simp
        try rfl
      try simp only [Act.put, List.setIfInBounds_toArray, List.set_cons_zero, List.set_cons_succ])
    refine lex_call (f := 29) (args := ?_) rfl rfl (fun w' hf => ?_) (fun w' hf => ?_) ?_
    rotate_left
    · go_simp
      try rfl
    · exact HWi.out A c size w'
    try simp only [Act.put, List.setIfInBounds_toArray, List.set_cons_zero, List.set_cons_succ]
    repeat (
      refine lex_val (v := ?_) rfl rfl (fun w' hf => ?_) ?_
      rotate_left
      · obtain ⟨⟨c0, c1⟩, ⟨d0, d1⟩, ⟨f0, f1⟩, ⟨g0, g1⟩, k0, k1⟩ := (HK4.out.next hf.only.below0).cells; go_simp
        try rfl
      try simp only [Act.put, List.setIfInBounds_toArray, List.set_cons_zero, List.set_cons_succ])
    refine lex_call (f := 30) (args := ?_) rfl rfl (fun w' hf => ?_) (fun w' hf => ?_) ?_
    rotate_left
    · go_simp
      try rfl
    · exact HRWi.out A c size w'
    try simp only [Act.put, List.setIfInBounds_toArray, List.set_cons_zero, List.set_cons_succ]
    repeat (
      refine lex_val (v := ?_) rfl rfl (fun w' hf => ?_) ?_
      rotate_left
      · obtain ⟨⟨c0, c1⟩, ⟨d0, d1⟩, ⟨f0, f1⟩, ⟨g0, g1⟩, k0, k1⟩ := (HK4.out.next hf.only.below0).cells; go_simp
        try rfl
      try simp only [Act.put, List.setIfInBounds_toArray, List.set_cons_zero, List.set_cons_succ])
    refine lex_call (f := 29) (args := ?_) rfl rfl (fun w' hf => ?_) (fun w' hf => ?_) ?_
    rotate_left
    · go_simp
      try rfl
    · exact HWi.out Ay cy z w'
    try simp only [Act.put, List.setIfInBounds_toArray, List.set_cons_zero, List.set_cons_succ]
    repeat (
      refine lex_val (v := ?_) rfl rfl (fun w' hf => ?_) ?_
      rotate_left
      · obtain ⟨⟨c0, c1⟩, ⟨d0, d1⟩, ⟨f0, f1⟩, ⟨g0, g1⟩, k0, k1⟩ := (HK4.out.next hf.only.below0).cells; go_simp
        try rfl
      try simp only [Act.put, List.setIfInBounds_toArray, List.set_cons_zero, List.set_cons_succ])
    refine lex_call (f := 30) (args := ?_) rfl rfl (fun w' hf => ?_) (fun w' hf => ?_) ?_
    rotate_left
    · go_simp
      try rfl
    · exact HRWi.out A c z w'
    try simp only [Act.put, List.setIfInBounds_toArray, List.set_cons_zero, List.set_cons_succ]
    repeat (
      refine lex_val (v := ?_) rfl rfl (fun w' hf => ?_) ?_
      rotate_left
      · obtain ⟨⟨c0, c1⟩, ⟨d0, d1⟩, ⟨f0, f1⟩, ⟨g0, g1⟩, k0, k1⟩ := (HK4.out.next hf.only.below0).cells; go_simp
        try rfl
      try simp only [Act.put, List.setIfInBounds_toArray, List.set_cons_zero, List.set_cons_succ])
    refine lex_nil fun w5 he => ?_
    have HK5 := Lib.hid (HK4.out.next he.only.below0)
    clear he hβ HK4 e1 e2
    go_wp2_with fail
    refine wp_region_mix_lit (by kernel_rfl) [(2, .call (.bool b1)), (5, .call (.bool b1)), (10, .call (.bool b2)), (13, .call (.bool b2)), (19, .letter (LnP L.length size) (LnF w5.heap.size L size)), (20, .letter (LnP L.length size) (LnF w5.heap.size L size)), (21, .call (.bool true))] (by kernel_rfl) (by kernel_rfl) (by kernel_rfl) (by rfl) (by simp [apartK] <;> omega) (by simp [startK]) (by repeat (first | (refine List.forall_mem_cons.2 ⟨?_, ?_⟩; (first | exact trivial | exact lnF_stab _ _ _ _ (by simp [boxes, Kind.boxed]))) | (intro x hx; cases hx; done))) (⟨fun i => lineV none L.length L.length size, by repeat (first | (refine List.forall_mem_cons.2 ⟨?_, ?_⟩; (first | exact trivial | exact ⟨none, _, rfl, Nat.le_refl _⟩ | exact ⟨_, rfl, Nat.le_refl _⟩)) | (intro x hx; cases hx; done))⟩) (fun β hβ => ?_)
    obtain ⟨A1, c1, e1, _⟩ := (hβ 19 : LnP L.length size (β 19))
    obtain ⟨A2, c2, e2, _⟩ := (hβ 20 : LnP L.length size (β 20))
    unfold lineV at e1 e2
    repeat (
      refine lex_val (v := ?_) rfl rfl (fun w' hf => ?_) ?_
      rotate_left
      · obtain ⟨⟨c0, c1⟩, ⟨d0, d1⟩, ⟨f0, f1⟩, ⟨g0, g1⟩, k0, k1⟩ := (HK5.out.next hf.only.below0).cells; go_simp
        try rfl
      try simp only [Act.put, List.setIfInBounds_toArray, List.set_cons_zero, List.set_cons_succ])
    refine lex_call (f := 31) (args := ?_) rfl rfl (fun w' hf => ?_) (fun w' hf => ?_) ?_
    rotate_left
    · go_simp
      try rfl
    · exact (by rw [HB1.out]; exact HSm.out A Ax c cx R N hNl hN size w' (HK5.out.next hf.only.below0).rl (HK5.out.next hf.only.below0).rx)
    try simp only [Act.put, List.setIfInBounds_toArray, List.set_cons_zero, List.set_cons_succ]
    repeat (
      refine lex_val (v := ?_) rfl rfl (fun w' hf => ?_) ?_
      rotate_left
      · obtain ⟨⟨c0, c1⟩, ⟨d0, d1⟩, ⟨f0, f1⟩, ⟨g0, g1⟩, k0, k1⟩ := (HK5.out.next hf.only.below0).cells; go_simp
        try rfl
      try simp only [Act.put, List.setIfInBounds_toArray, List.set_cons_zero, List.set_cons_succ])
    refine lex_call (f := 12) (args := ?_) rfl rfl (fun w' hf => ?_) (fun w' hf => ?_) ?_
    rotate_left
    · go_simp
      try rfl
    · exact (by rw [HB1.out]; exact HRm.out A Ax c cx R N hNl hN size w' (HK5.out.next hf.only.below0).rl (HK5.out.next hf.only.below0).rx)
    try simp only [Act.put, List.setIfInBounds_toArray, List.set_cons_zero, List.set_cons_succ]
    repeat (
      refine lex_val (v := ?_) rfl rfl (fun w' hf => ?_) ?_
      rotate_left
      · obtain ⟨⟨c0, c1⟩, ⟨d0, d1⟩, ⟨f0, f1⟩, ⟨g0, g1⟩, k0, k1⟩ := (HK5.out.next hf.only.below0).cells; go_simp
        try rfl
      try simp only [Act.put, List.setIfInBounds_toArray, List.set_cons_zero, List.set_cons_succ])
    refine lex_call (f := 31) (args := ?_) rfl rfl (fun w' hf => ?_) (fun w' hf => ?_) ?_
    rotate_left
    · go_simp
      try rfl
    · exact (by rw [HB2.out]; exact HSm.out A Ay c cy L L.length rfl (by omega) z w' (HK5.out.next hf.only.below0).rl (HK5.out.next hf.only.below0).ry)
    try simp only [Act.put, List.setIfInBounds_toArray, List.set_cons_zero, List.set_cons_succ]
    repeat (
      refine lex_val (v := ?_) rfl rfl (fun w' hf => ?_) ?_
      rotate_left
      · obtain ⟨⟨c0, c1⟩, ⟨d0, d1⟩, ⟨f0, f1⟩, ⟨g0, g1⟩, k0, k1⟩ := (HK5.out.next hf.only.below0).cells; go_simp
        try rfl
      try simp only [Act.put, List.setIfInBounds_toArray, List.set_cons_zero, List.set_cons_succ])
    refine lex_call (f := 12) (args := ?_) rfl rfl (fun w' hf => ?_) (fun w' hf => ?_) ?_
    rotate_left
    · go_simp
      try rfl
    · exact (by rw [HB2.out]; exact HRm.out A Ay c cy L L.length rfl (by omega) z w' (HK5.out.next hf.only.below0).rl (HK5.out.next hf.only.below0).ry)
    try simp only [Act.put, List.setIfInBounds_toArray, List.set_cons_zero, List.set_cons_succ]
    repeat (
      refine lex_val (v := ?_) rfl rfl (fun w' hf => ?_) ?_
      rotate_left
      · obtain ⟨⟨c0, c1⟩, ⟨d0, d1⟩, ⟨f0, f1⟩, ⟨g0, g1⟩, k0, k1⟩ := (HK5.out.next hf.only.below0).cells; go_simp
        try rfl
      try simp only [Act.put, List.setIfInBounds_toArray, List.set_cons_zero, List.set_cons_succ])
    refine lex_letter (f := 9) (args := ?_) rfl rfl (fun w' hf => ?_) (fun w' hf => ?_) ?_
    rotate_left
    · go_simp
      try rfl
    · exact ln_own (by have := hf.only.size; omega) rfl (HOwn1.out A c hcap w' (HK5.out.next hf.only.below0).rl)
    try simp only [Act.put, List.setIfInBounds_toArray, List.set_cons_zero, List.set_cons_succ]
    repeat (
      refine lex_val (v := ?_) rfl rfl (fun w' hf => ?_) ?_
      rotate_left
      · obtain ⟨⟨c0, c1⟩, ⟨d0, d1⟩, ⟨f0, f1⟩, ⟨g0, g1⟩, k0, k1⟩ := (HK5.out.next hf.only.below0).cells; go_simp
        try rfl
      try simp only [Act.put, List.setIfInBounds_toArray, List.set_cons_zero, List.set_cons_succ])
    refine lex_letter (f := 32) (args := ?_) rfl rfl (fun w' hf => ?_) (fun w' hf => ?_) ?_
    rotate_left
    · go_simp
      try rfl
    · exact ln_row hf.only.size rfl (by omega) (HCp.out A1 c1 w' (LnF.reads (A := A1) (c := c1) rfl (by have := hf.got 19 _ _ rfl (by kernel_rfl); rw [e1] at this; exact this)))
    try simp only [Act.put, List.setIfInBounds_toArray, List.set_cons_zero, List.set_cons_succ]
    repeat (
      refine lex_val (v := ?_) rfl rfl (fun w' hf => ?_) ?_
      rotate_left
      · obtain ⟨⟨c0, c1⟩, ⟨d0, d1⟩, ⟨f0, f1⟩, ⟨g0, g1⟩, k0, k1⟩ := (HK5.out.next hf.only.below0).cells; go_simp
        try rfl
      try simp only [Act.put, List.setIfInBounds_toArray, List.set_cons_zero, List.set_cons_succ])
    refine lex_call (f := 31) (args := ?_) rfl rfl (fun w' hf => ?_) (fun w' hf => ?_) ?_
    rotate_left
    · go_simp
      try rfl
    · exact (by have hh := HSm.out A A2 c c2 L L.length rfl (by omega) size w' (HK5.out.next hf.only.below0).rl (LnF.reads (A := A2) (c := c2) rfl (by have := hf.got 20 _ _ rfl (by kernel_rfl); rw [e2] at this; exact this)); rw [show smB size size L L = true from by simp [smB]] at hh; exact hh)
    try simp only [Act.put, List.setIfInBounds_toArray, List.set_cons_zero, List.set_cons_succ]
    repeat (
      refine lex_val (v := ?_) rfl rfl (fun w' hf => ?_) ?_
      rotate_left
      · obtain ⟨⟨c0, c1⟩, ⟨d0, d1⟩, ⟨f0, f1⟩, ⟨g0, g1⟩, k0, k1⟩ := (HK5.out.next hf.only.below0).cells; go_simp
        try rfl
      try simp only [Act.put, List.setIfInBounds_toArray, List.set_cons_zero, List.set_cons_succ])
    refine lex_nil fun w6 he => ?_
    have hb6 := (HK5.out.next he.only.below0).k.2
    clear he hβ HK5 e1 e2
    go_wp2_with fail
    go_ret
    exact ⟨rfl, hb6⟩
  · have z3 : (s < 0) = False := eq_false (by omega)
    have z4 : (3 < s) = False := eq_false (by omega)
    have z5 : (s > 3) = False := eq_false (by omega)
    have hz := Lib.hid (congrArg (Value.int .i64) ez.symm)
    clear ez
    go_wp2_with fail
    refine world_gen (KSh w L E R A An Ax Ay c cn cx cy N size z bn bx bY w3.heap.size) (HP.out _ hz.out) ?_
    intro W4 HK4
    replace HK4 := Lib.hid HK4
    clear HP hz
    refine wp_region_mix_lit (by kernel_rfl) [(2, .letter (LnP N 0) (LnF W4.heap.size E 0)), (3, .call (.bool true)), (9, .letter (LnP N size) (LnF W4.heap.size R size)), (10, .call (.bool true)), (16, .call (.bool true)), (21, .call (.int .i64 (widthP L.length size))), (23, .call (.int .i64 (widthP L.length size))), (28, .call (.int .i64 (widthP L.length z))), (30, .call (.int .i64 (widthP L.length z)))] (by kernel_rfl) (by kernel_rfl) (by kernel_rfl) (by rfl) (by simp [apartK] <;> omega) (by simp [startK]) (by repeat (first | (refine List.forall_mem_cons.2 ⟨?_, ?_⟩; (first | exact trivial | exact lnF_stab _ _ _ _ (by simp [boxes, Kind.boxed]))) | (intro x hx; cases hx; done))) (⟨fun i => if i = 2 then lineV none N N 0 else lineV none N N size, by repeat (first | (refine List.forall_mem_cons.2 ⟨?_, ?_⟩; (first | exact trivial | exact ⟨none, _, rfl, Nat.le_refl _⟩ | exact ⟨_, rfl, Nat.le_refl _⟩)) | (intro x hx; cases hx; done))⟩) (fun β hβ => ?_)
    obtain ⟨A1, c1, e1, _⟩ := (hβ 2 : LnP N 0 (β 2))
    obtain ⟨A2, c2, e2, _⟩ := (hβ 9 : LnP N size (β 9))
    unfold lineV at e1 e2
    repeat (
      refine lex_val (v := ?_) rfl rfl (fun w' hf => ?_) ?_
      rotate_left
      · obtain ⟨⟨c0, c1⟩, ⟨d0, d1⟩, ⟨f0, f1⟩, ⟨g0, g1⟩, k0, k1⟩ := (HK4.out.next hf.only.below0).cells; go_simp
        try rfl
      try simp only [Act.put, List.setIfInBounds_toArray, List.set_cons_zero, List.set_cons_succ])
    refine lex_letter (f := 27) (args := ?_) rfl rfl (fun w' hf => ?_) (fun w' hf => ?_) ?_
    rotate_left
    · go_simp
      try rfl
    · exact ln_own (by have := hf.only.size; omega) hNe.symm (HRNew.out w')
    try simp only [Act.put, List.setIfInBounds_toArray, List.set_cons_zero, List.set_cons_succ]
    repeat (
      refine lex_val (v := ?_) rfl rfl (fun w' hf => ?_) ?_
      rotate_left
      · obtain ⟨⟨c0, c1⟩, ⟨d0, d1⟩, ⟨f0, f1⟩, ⟨g0, g1⟩, k0, k1⟩ := (HK4.out.next hf.only.below0).cells; go_simp
        try rfl
      try simp only [Act.put, List.setIfInBounds_toArray, List.set_cons_zero, List.set_cons_succ])
    refine lex_call (f := 12) (args := ?_) rfl rfl (fun w' hf => ?_) (fun w' hf => ?_) ?_
    rotate_left
    · go_simp
      try rfl
    · exact HRs.out An A1 cn c1 E N hNe hN 0 w' (HK4.out.next hf.only.below0).rn (LnF.reads (A := A1) (c := c1) hNe.symm (by have := hf.got 2 _ _ rfl (by kernel_rfl); rw [e1] at this; exact this))
    try simp only [Act.put, List.setIfInBounds_toArray, List.set_cons_zero, List.set_cons_succ]
    repeat (
      refine lex_val (v := ?_) rfl rfl (fun w' hf => ?_) ?_
      rotate_left
      · obtain ⟨⟨c0, c1⟩, ⟨d0, d1⟩, ⟨f0, f1⟩, ⟨g0, g1⟩, k0, k1⟩ := (HK4.out.next hf.only.below0).cells; go_simp
        try rfl
      try simp only [Act.put, List.setIfInBounds_toArray, List.set_cons_zero, List.set_cons_succ])
    refine lex_letter (f := 28) (args := ?_) rfl rfl (fun w' hf => ?_) (fun w' hf => ?_) ?_
    rotate_left
    · go_simp
      try rfl
    · exact ln_own hf.only.size hNl.symm (HRRes.out A c w' (HK4.out.next hf.only.below0).rl)
    try simp only [Act.put, List.setIfInBounds_toArray, List.set_cons_zero, List.set_cons_succ]
    repeat (
      refine lex_val (v := ?_) rfl rfl (fun w' hf => ?_) ?_
      rotate_left
      · obtain ⟨⟨c0, c1⟩, ⟨d0, d1⟩, ⟨f0, f1⟩, ⟨g0, g1⟩, k0, k1⟩ := (HK4.out.next hf.only.below0).cells; go_simp
        try rfl
      try simp only [Act.put, List.setIfInBounds_toArray, List.set_cons_zero, List.set_cons_succ])
    refine lex_call (f := 12) (args := ?_) rfl rfl (fun w' hf => ?_) (fun w' hf => ?_) ?_
    rotate_left
    · go_simp
      try rfl
    · exact HRs.out Ax A2 cx c2 R N hNl hN size w' (HK4.out.next hf.only.below0).rx (LnF.reads (A := A2) (c := c2) hNl.symm (by have := hf.got 9 _ _ rfl (by kernel_rfl); rw [e2] at this; exact this))
    try simp only [Act.put, List.setIfInBounds_toArray, List.set_cons_zero, List.set_cons_succ]
    repeat (
      refine lex_val (v := ?_) rfl rfl (fun w' hf => ?_) ?_
      rotate_left
      · obtain ⟨⟨c0, c1⟩, ⟨d0, d1⟩, ⟨f0, f1⟩, ⟨g0, g1⟩, k0, k1⟩ := (HK4.out.next hf.only.below0).cells; go_simp
        try rfl
      try simp only [Act.put, List.setIfInBounds_toArray, List.set_cons_zero, List.set_cons_succ])
    refine lex_call (f := 12) (args := ?_) rfl rfl (fun w' hf => ?_) (fun w' hf => ?_) ?_
    rotate_left
    · go_simp
      try rfl
    · exact HRs.out Ay A cy c L L.length rfl (by omega) z w' (HK4.out.next hf.only.below0).ry (HK4.out.next hf.only.below0).rl
    try simp only [Act.put, List.setIfInBounds_toArray, List.set_cons_zero, List.set_cons_succ]
    repeat (
      refine lex_val (v := ?_) rfl rfl (fun w' hf => ?_) ?_
      rotate_left
      · obtain ⟨⟨c0, c1⟩, ⟨d0, d1⟩, ⟨f0, f1⟩, ⟨g0, g1⟩, k0, k1⟩ := (HK4.out.next hf.only.below0).cells; go_simp
        try rfl
      try simp only [Act.put, List.setIfInBounds_toArray, List.set_cons_zero, List.set_cons_succ])
    refine lex_call (f := 29) (args := ?_) rfl rfl (fun w' hf => ?_) (fun w' hf => ?_) ?_
    rotate_left
    · go_simp
      try rfl
    · exact HWi.out A c size w'
    try simp only [Act.put, List.setIfInBounds_toArray, List.set_cons_zero, List.set_cons_succ]
    repeat (
      refine lex_val (v := ?_) rfl rfl (fun w' hf => ?_) ?_
      rotate_left
      · obtain ⟨⟨c0, c1⟩, ⟨d0, d1⟩, ⟨f0, f1⟩, ⟨g0, g1⟩, k0, k1⟩ := (HK4.out.next hf.only.below0).cells; go_simp
        try rfl
      try simp only [Act.put, List.setIfInBounds_toArray, List.set_cons_zero, List.set_cons_succ])
    refine lex_call (f := 30) (args := ?_) rfl rfl (fun w' hf => ?_) (fun w' hf => ?_) ?_
    rotate_left
    · go_simp
      try rfl
    · exact HRWi.out A c size w'
    try simp only [Act.put, List.setIfInBounds_toArray, List.set_cons_zero, List.set_cons_succ]
    repeat (
      refine lex_val (v := ?_) rfl rfl (fun w' hf => ?_) ?_
      rotate_left
      · obtain ⟨⟨c0, c1⟩, ⟨d0, d1⟩, ⟨f0, f1⟩, ⟨g0, g1⟩, k0, k1⟩ := (HK4.out.next hf.only.below0).cells; go_simp
        try rfl
      try simp only [Act.put, List.setIfInBounds_toArray, List.set_cons_zero, List.set_cons_succ])
    refine lex_call (f := 29) (args := ?_) rfl rfl (fun w' hf => ?_) (fun w' hf => ?_) ?_
    rotate_left
    · go_simp
      try rfl
    · exact HWi.out Ay cy z w'
    try simp only [Act.put, List.setIfInBounds_toArray, List.set_cons_zero, List.set_cons_succ]
    repeat (
      refine lex_val (v := ?_) rfl rfl (fun w' hf => ?_) ?_
      rotate_left
      · obtain ⟨⟨c0, c1⟩, ⟨d0, d1⟩, ⟨f0, f1⟩, ⟨g0, g1⟩, k0, k1⟩ := (HK4.out.next hf.only.below0).cells; go_simp
        try rfl
      try simp only [Act.put, List.setIfInBounds_toArray, List.set_cons_zero, List.set_cons_succ])
    refine lex_call (f := 30) (args := ?_) rfl rfl (fun w' hf => ?_) (fun w' hf => ?_) ?_
    rotate_left
    · go_simp
      try rfl
    · exact HRWi.out A c z w'
    try simp only [Act.put, List.setIfInBounds_toArray, List.set_cons_zero, List.set_cons_succ]
    repeat (
      refine lex_val (v := ?_) rfl rfl (fun w' hf => ?_) ?_
      rotate_left
      · obtain ⟨⟨c0, c1⟩, ⟨d0, d1⟩, ⟨f0, f1⟩, ⟨g0, g1⟩, k0, k1⟩ := (HK4.out.next hf.only.below0).cells; go_simp
        try rfl
      try simp only [Act.put, List.setIfInBounds_toArray, List.set_cons_zero, List.set_cons_succ])
    refine lex_nil fun w5 he => ?_
    have HK5 := Lib.hid (HK4.out.next he.only.below0)
    clear he hβ HK4 e1 e2
    go_wp2_with fail
    refine wp_region_mix_lit (by kernel_rfl) [(2, .call (.bool b1)), (5, .call (.bool b1)), (10, .call (.bool b2)), (13, .call (.bool b2)), (19, .letter (LnP L.length size) (LnF w5.heap.size L size)), (20, .letter (LnP L.length size) (LnF w5.heap.size L size)), (21, .call (.bool true))] (by kernel_rfl) (by kernel_rfl) (by kernel_rfl) (by rfl) (by simp [apartK] <;> omega) (by simp [startK]) (by repeat (first | (refine List.forall_mem_cons.2 ⟨?_, ?_⟩; (first | exact trivial | exact lnF_stab _ _ _ _ (by simp [boxes, Kind.boxed]))) | (intro x hx; cases hx; done))) (⟨fun i => lineV none L.length L.length size, by repeat (first | (refine List.forall_mem_cons.2 ⟨?_, ?_⟩; (first | exact trivial | exact ⟨none, _, rfl, Nat.le_refl _⟩ | exact ⟨_, rfl, Nat.le_refl _⟩)) | (intro x hx; cases hx; done))⟩) (fun β hβ => ?_)
    obtain ⟨A1, c1, e1, _⟩ := (hβ 19 : LnP L.length size (β 19))
    obtain ⟨A2, c2, e2, _⟩ := (hβ 20 : LnP L.length size (β 20))
    unfold lineV at e1 e2
    repeat (
      refine lex_val (v := ?_) rfl rfl (fun w' hf => ?_) ?_
      rotate_left
      · obtain ⟨⟨c0, c1⟩, ⟨d0, d1⟩, ⟨f0, f1⟩, ⟨g0, g1⟩, k0, k1⟩ := (HK5.out.next hf.only.below0).cells; go_simp
        try rfl
      try simp only [Act.put, List.setIfInBounds_toArray, List.set_cons_zero, List.set_cons_succ])
    refine lex_call (f := 31) (args := ?_) rfl rfl (fun w' hf => ?_) (fun w' hf => ?_) ?_
    rotate_left
    · go_simp
      try rfl
    · exact (by rw [HB1.out]; exact HSm.out A Ax c cx R N hNl hN size w' (HK5.out.next hf.only.below0).rl (HK5.out.next hf.only.below0).rx)
    try simp only [Act.put, List.setIfInBounds_toArray, List.set_cons_zero, List.set_cons_succ]
    repeat (
      refine lex_val (v := ?_) rfl rfl (fun w' hf => ?_) ?_
      rotate_left
      · obtain ⟨⟨c0, c1⟩, ⟨d0, d1⟩, ⟨f0, f1⟩, ⟨g0, g1⟩, k0, k1⟩ := (HK5.out.next hf.only.below0).cells; go_simp
        try rfl
      try simp only [Act.put, List.setIfInBounds_toArray, List.set_cons_zero, List.set_cons_succ])
    refine lex_call (f := 12) (args := ?_) rfl rfl (fun w' hf => ?_) (fun w' hf => ?_) ?_
    rotate_left
    · go_simp
      try rfl
    · exact (by rw [HB1.out]; exact HRm.out A Ax c cx R N hNl hN size w' (HK5.out.next hf.only.below0).rl (HK5.out.next hf.only.below0).rx)
    try simp only [Act.put, List.setIfInBounds_toArray, List.set_cons_zero, List.set_cons_succ]
    repeat (
      refine lex_val (v := ?_) rfl rfl (fun w' hf => ?_) ?_
      rotate_left
      · obtain ⟨⟨c0, c1⟩, ⟨d0, d1⟩, ⟨f0, f1⟩, ⟨g0, g1⟩, k0, k1⟩ := (HK5.out.next hf.only.below0).cells; go_simp
        try rfl
      try simp only [Act.put, List.setIfInBounds_toArray, List.set_cons_zero, List.set_cons_succ])
    refine lex_call (f := 31) (args := ?_) rfl rfl (fun w' hf => ?_) (fun w' hf => ?_) ?_
    rotate_left
    · go_simp
      try rfl
    · exact (by rw [HB2.out]; exact HSm.out A Ay c cy L L.length rfl (by omega) z w' (HK5.out.next hf.only.below0).rl (HK5.out.next hf.only.below0).ry)
    try simp only [Act.put, List.setIfInBounds_toArray, List.set_cons_zero, List.set_cons_succ]
    repeat (
      refine lex_val (v := ?_) rfl rfl (fun w' hf => ?_) ?_
      rotate_left
      · obtain ⟨⟨c0, c1⟩, ⟨d0, d1⟩, ⟨f0, f1⟩, ⟨g0, g1⟩, k0, k1⟩ := (HK5.out.next hf.only.below0).cells; go_simp
        try rfl
      try simp only [Act.put, List.setIfInBounds_toArray, List.set_cons_zero, List.set_cons_succ])
    refine lex_call (f := 12) (args := ?_) rfl rfl (fun w' hf => ?_) (fun w' hf => ?_) ?_
    rotate_left
    · go_simp
      try rfl
    · exact (by rw [HB2.out]; exact HRm.out A Ay c cy L L.length rfl (by omega) z w' (HK5.out.next hf.only.below0).rl (HK5.out.next hf.only.below0).ry)
    try simp only [Act.put, List.setIfInBounds_toArray, List.set_cons_zero, List.set_cons_succ]
    repeat (
      refine lex_val (v := ?_) rfl rfl (fun w' hf => ?_) ?_
      rotate_left
      · obtain ⟨⟨c0, c1⟩, ⟨d0, d1⟩, ⟨f0, f1⟩, ⟨g0, g1⟩, k0, k1⟩ := (HK5.out.next hf.only.below0).cells; go_simp
        try rfl
      try simp only [Act.put, List.setIfInBounds_toArray, List.set_cons_zero, List.set_cons_succ])
    refine lex_letter (f := 9) (args := ?_) rfl rfl (fun w' hf => ?_) (fun w' hf => ?_) ?_
    rotate_left
    · go_simp
      try rfl
    · exact ln_own (by have := hf.only.size; omega) rfl (HOwn1.out A c hcap w' (HK5.out.next hf.only.below0).rl)
    try simp only [Act.put, List.setIfInBounds_toArray, List.set_cons_zero, List.set_cons_succ]
    repeat (
      refine lex_val (v := ?_) rfl rfl (fun w' hf => ?_) ?_
      rotate_left
      · obtain ⟨⟨c0, c1⟩, ⟨d0, d1⟩, ⟨f0, f1⟩, ⟨g0, g1⟩, k0, k1⟩ := (HK5.out.next hf.only.below0).cells; go_simp
        try rfl
      try simp only [Act.put, List.setIfInBounds_toArray, List.set_cons_zero, List.set_cons_succ])
    refine lex_letter (f := 32) (args := ?_) rfl rfl (fun w' hf => ?_) (fun w' hf => ?_) ?_
    rotate_left
    · go_simp
      try rfl
    · exact ln_row hf.only.size rfl (by omega) (HCp.out A1 c1 w' (LnF.reads (A := A1) (c := c1) rfl (by have := hf.got 19 _ _ rfl (by kernel_rfl); rw [e1] at this; exact this)))
    try simp only [Act.put, List.setIfInBounds_toArray, List.set_cons_zero, List.set_cons_succ]
    repeat (
      refine lex_val (v := ?_) rfl rfl (fun w' hf => ?_) ?_
      rotate_left
      · obtain ⟨⟨c0, c1⟩, ⟨d0, d1⟩, ⟨f0, f1⟩, ⟨g0, g1⟩, k0, k1⟩ := (HK5.out.next hf.only.below0).cells; go_simp
        try rfl
      try simp only [Act.put, List.setIfInBounds_toArray, List.set_cons_zero, List.set_cons_succ])
    refine lex_call (f := 31) (args := ?_) rfl rfl (fun w' hf => ?_) (fun w' hf => ?_) ?_
    rotate_left
    · go_simp
      try rfl
    · exact (by have hh := HSm.out A A2 c c2 L L.length rfl (by omega) size w' (HK5.out.next hf.only.below0).rl (LnF.reads (A := A2) (c := c2) rfl (by have := hf.got 20 _ _ rfl (by kernel_rfl); rw [e2] at this; exact this)); rw [show smB size size L L = true from by simp [smB]] at hh; exact hh)
    try simp only [Act.put, List.setIfInBounds_toArray, List.set_cons_zero, List.set_cons_succ]
    repeat (
      refine lex_val (v := ?_) rfl rfl (fun w' hf => ?_) ?_
      rotate_left
      · obtain ⟨⟨c0, c1⟩, ⟨d0, d1⟩, ⟨f0, f1⟩, ⟨g0, g1⟩, k0, k1⟩ := (HK5.out.next hf.only.below0).cells; go_simp
        try rfl
      try simp only [Act.put, List.setIfInBounds_toArray, List.set_cons_zero, List.set_cons_succ])
    refine lex_nil fun w6 he => ?_
    have hb6 := (HK5.out.next he.only.below0).k.2
    clear he hβ HK5 e1 e2
    go_wp2_with fail
    go_ret
    exact ⟨rfl, hb6⟩

/-- What the walk gives, for every argument and every world that holds the table. -/
theorem contract (H : Type) (enc : TypeId × Value → H) (W : World) (base : Nat) (args : Array Value) (ds gs : List (DataW H)) (before : List MemPlace)
    (hval : ∀ (j : Nat) t v, Try.f6.params[j]? = some t → args[j]? = some v → Value.okWide Try.prog W .any base t v)
    (hW : DataW.Whole enc Try.prog Try.f6.params.toList Rows.lineShapesSpec.vars false W args.toList ds gs before) (_hL : laidMetH Try.prog Rows.lineShapesRow.laid W)
    (hreach : (DataW.weightsEach Try.prog (Try.f6.params.toList ++ []) (ds ++ gs)).all (· ≤ reachBytes) = true) :
    Calls Try.prog 6 args W fun e W' => ∃ v, e = .returned v ∧ Rows.lineShapesSpec.post enc Try.prog Try.f6 false true false false W args v W' := by
  have hW' := hW
  clear _hL
  have hlts : ∀ x ∈ before, x.block < W.heap.size := fun x hx => hW'.lt x hx
  obtain ⟨p, q, hA0, hV, rfl, hfz, hnd⟩ := hW
  have hA : DataW.TrodAll enc Try.prog W 0 (fun _ => true) true Try.f6.params.toList args.toList ds p := hA0
  rw [Try.params6] at hA hval hreach
  obtain ⟨v0, vs0, d0, ds0, pp0, qq0, hargs, rfl, rfl, h0, rr0⟩ := trodAll_cons hA
  obtain ⟨v1, vs1, d1, ds1, pp1, qq1, rfl, rfl, rfl, h1, rr1⟩ := trodAll_cons rr0
  obtain ⟨v2, vs2, d2, ds2, pp2, qq2, rfl, rfl, rfl, h2, rr2⟩ := trodAll_cons rr1
  obtain ⟨rfl, rfl, rfl⟩ := trodAll_nil rr2
  obtain rfl : args = #[v0, v1, v2] := by cases args; simp_all
  obtain ⟨rfl, rfl⟩ := trodVars_none hV
  obtain ⟨b0, cap0, l0, z0, rfl, hm0, hc0, hri0⟩ := line_in (hval 0 24 v0 rfl rfl) h0
  obtain ⟨a1, rfl, rfl, rfl, w1⟩ := open_int Try.underlying3 (hval 1 3 v1 rfl rfl) h1
  obtain ⟨a2, rfl, rfl, rfl, w2⟩ := open_int Try.underlying3 (hval 2 3 v2 rfl rfl) h2
  clear hA0
  refine (walk b0 cap0 l0 z0 hm0 hc0 a1 a2 W hri0).mono fun e W' ⟨he, hb⟩ => ?_
  subst he
  exact ⟨_, rfl, post_law laidOut (by kernel_rfl) (by kernel_rfl) rfl hW' rfl hb⟩

theorem laid_met (os : Os) : laidMet Try.prog Rows.lineShapesRow.laid ((laidWorld os).forCall (fun _ _ => 0) ⟨#[], #[Value.agg #[.slice none 0 0, .int .i64 0], Value.int .i64 0, Value.int .i64 0], []⟩).memory :=
  laidMet_of_run' 8 (by kernel_rfl) (by kernel_rfl)
theorem reads (os : Os) {H : Type} (enc : TypeId × Value → H) : ∃ places, DataW.whole enc Try.prog ((laidWorld os).forCall (fun _ _ => 0) ⟨#[], #[Value.agg #[.slice none 0 0, .int .i64 0], Value.int .i64 0, Value.int .i64 0], []⟩).memory Try.f6.params.toList Rows.lineShapesSpec.vars false (#[Value.agg #[.slice none 0 0, .int .i64 0], Value.int .i64 0, Value.int .i64 0] : Array Value).toList 8 = some ([.agg [.nil, .lit (.int .i64 0)], .lit (.int .i64 0), .lit (.int .i64 0)], [], places) :=
  ⟨[], by kernel_rfl⟩

set_option maxRecDepth 100000 in
theorem lifted (os : Os) (started : os.Started) (H : Type) (enc : TypeId × Value → H) (F : Stop.Interp) :
    ReturnsInHanded {} Try.checked os 6 .any ((OpenSpec.ofChange Rows.lineShapesSpec).preRow enc Try.prog Try.f6 Rows.lineShapesRow.domain false Rows.lineShapesRow.laid) (((OpenSpec.ofChange Rows.lineShapesSpec).at F).post enc Try.prog Try.f6 false true false false) := by
  obtain ⟨places, hx⟩ := reads os enc
  refine returnsInHanded_of_row (C := Try.checked) (s := OpenSpec.ofChange Rows.lineShapesSpec) own started (by kernel_rfl) Try.func6
    (witness_row_at (enc := enc) (C := Try.checked) false (laidWorld os) #[Value.agg #[.slice none 0 0, .int .i64 0], Value.int .i64 0, Value.int .i64 0] rfl (by kernel_rfl) (by kernel_rfl) (by kernel_rfl)
      (OpenSpec.preRow_of_cond 8 hx (by kernel_rfl) (fun k hk => by cases hk) (by kernel_rfl) (laid_met os))) ?_
  intro W base args ds gs before hval hW _ _ hreach hL _ _
  exact contract H enc W base args ds gs before hval hW hL hreach

theorem said : Rows.LineShapesSaid :=
  OpenClaim.holds_of_cond 6 Try.f6 rfl rfl rfl rfl rfl rfl rfl ⟨rfl, rfl, rfl, rfl, rfl⟩ rfl rfl rfl rfl rfl (by kernel_rfl) Try.func6 (by kernel_rfl)
    (of_decide_eq_true (by kernel_rfl)) (by unfold Func.isWrapper; first | (rw [if_pos (by decide +kernel)]; kernel_rfl) | (rw [if_neg (by decide +kernel)]; exact ⟨rfl, rfl⟩))
    (fun os started H enc _ F => by rw [OpenClaim.pre_eq_preRow]; exact lifted os started H enc F)

#print axioms said
end Go.Proofs.Ytngklakdbagjpaa.lineShapes

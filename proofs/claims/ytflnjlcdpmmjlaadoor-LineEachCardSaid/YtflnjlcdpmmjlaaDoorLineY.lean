/-
  The walks of the reference's One (filling) and Each.
-/
import Derived.Test.YtflnjlcdpmmjlaaDoorLineV
namespace Go.Proofs.YtflnjlcdpmmjlaaDoor

open Go Go.RowKit

set_option maxHeartbeats 1000000 in
theorem refFill_any (x c : Cl) (ps : Value) (w : World) :
    Calls Tryd.prog 31 #[.int .i64 1, x.val, c.val, ps] w fun e w' => e = .returned c.val ∧ Below w.heap.size w w' := by
  obtain ⟨g, r, k⟩ := x
  obtain ⟨g', r', k'⟩ := c
  unfold Cl.val
  go_enter Tryd.func31, Tryd.ntmps31
  go_wp2_with fail
  exact bodyPost_ret (v := .agg #[.int .i32 g', .int .u8 r', .bool k']) (by simp [results, Tryd.results31, go_sem]) rfl ⟨rfl, by go_grown⟩

/-- What is known in the midst of such a walk: the boxes of the arguments and of what is answered, the box of what is made, its row. -/
structure Mid3 (w : World) (x z y : Array Value) (B : Nat) (A : Option Addr) (n c : Nat) (size : Int) (L : List Cl) (W : World) : Prop where
  b0 : Blk W w.heap.size 24 x
  b1 : Blk W (w.heap.size + 1) 29 z
  b2 : Blk W (w.heap.size + 1 + 1) 24 y
  below : Below w.heap.size w W
  box : Blk W B 24 #[.slice A n c, .int .i64 size]
  own : OCells W (w.heap.size + 3) (.slice A n c) L
  far : w.heap.size + 3 ≤ B
theorem Mid3.next {w W W' : World} {x z y : Array Value} {B n c : Nat} {A : Option Addr} {size : Int} {L : List Cl} (h : Mid3 w x z y B A n c size L W) (hb : Below W.heap.size W W') : Mid3 w x z y B A n c size L W' :=
  ⟨h.b0.next hb, h.b1.next hb, h.b2.next hb, h.below.trans (hb.mono h.below.size), h.box.next hb, h.own.next hb, h.far⟩
theorem Mid3.set {w W W' : World} {x z y : Array Value} {B n c g : Nat} {size : Int} {L L' : List Cl} (h : Mid3 w x z y B (some ⟨g, 0, none⟩) n c size L W) (ho : Only [g] W W') (hg : w.heap.size + 3 ≤ g) (hne : g ≠ B) (hl : OCells W' (w.heap.size + 3) (.slice (some ⟨g, 0, none⟩) n c) L') : Mid3 w x z y B (some ⟨g, 0, none⟩) n c size L' W' :=
  ⟨ho.blk h.b0 (by simp; omega), ho.blk h.b1 (by simp; omega), ho.blk h.b2 (by simp; omega), h.below.trans (ho.below h.below.size (by simp; omega)), ho.blk h.box (by simp; omega), hl, h.far⟩
theorem Mid3.fin {w W : World} {x z : Array Value} {B n c : Nat} {A : Option Addr} {size : Int} {L : List Cl} (h : Mid3 w x z #[.slice none 0 0, .int .i64 0] B A n c size L W) :
    ((W.setCell ⟨w.heap.size + 1 + 1, 0, none⟩ (.slice A n c)).setCell ⟨w.heap.size + 1 + 1, 1, none⟩ (.int .i64 size)).cell? ⟨w.heap.size + 1 + 1, 0, none⟩ = some (.slice A n c) ∧
    ((W.setCell ⟨w.heap.size + 1 + 1, 0, none⟩ (.slice A n c)).setCell ⟨w.heap.size + 1 + 1, 1, none⟩ (.int .i64 size)).cell? ⟨w.heap.size + 1 + 1, 1, none⟩ = some (.int .i64 size) ∧
    OCells ((W.setCell ⟨w.heap.size + 1 + 1, 0, none⟩ (.slice A n c)).setCell ⟨w.heap.size + 1 + 1, 1, none⟩ (.int .i64 size)) (w.heap.size + 3) (.slice A n c) L ∧
    Below w.heap.size w ((W.setCell ⟨w.heap.size + 1 + 1, 0, none⟩ (.slice A n c)).setCell ⟨w.heap.size + 1 + 1, 1, none⟩ (.int .i64 size)) := by
  have h2 := (h.b2.set_ 0 (.slice A n c)).set_ 1 (.int .i64 size)
  exact ⟨h2.cell 0, h2.cell 1, OCells.far (OCells.far h.own (by omega) _ _) (by omega) _ _, (h.below.setCell (by simp; omega) _).setCell (by simp; omega) _⟩
theorem mid3_start (w : World) (x z y : Array Value) : Blk (((w.alloc (.cells x 24)).alloc (.cells z 29)).alloc (.cells y 24)) w.heap.size 24 x ∧ Blk (((w.alloc (.cells x 24)).alloc (.cells z 29)).alloc (.cells y 24)) (w.heap.size + 1) 29 z ∧ Blk (((w.alloc (.cells x 24)).alloc (.cells z 29)).alloc (.cells y 24)) (w.heap.size + 1 + 1) 24 y ∧ Below w.heap.size w (((w.alloc (.cells x 24)).alloc (.cells z 29)).alloc (.cells y 24)) := by
  have h1 := Blk.new (w.alloc (.cells x 24)) 29 z
  have h2 := Blk.new ((w.alloc (.cells x 24)).alloc (.cells z 29)) 24 y
  simp at h1 h2
  exact ⟨((Blk.new w _ x).alloc _).alloc _, h1.alloc _, h2, (((Below.refl _ _).alloc (Nat.le_refl _) _).alloc (by simp) _).alloc (by simp; omega) _⟩
/-- A deed, done with what lies within a span. -/
def deedC (φ : Cl → Cl) (F T j : Nat) (x : Cl) : Cl := if F ≤ j ∧ j < T then φ x else x
theorem cells3 {w : World} {b : Nat} {T : TypeId} {x y z : Value} (h : Blk w b T #[x, y, z]) : w.cell? ⟨b, 0, none⟩ = some x ∧ w.cell? ⟨b, 1, none⟩ = some y ∧ w.cell? ⟨b, 2, none⟩ = some z := ⟨h.cell 0, h.cell 1, h.cell 2⟩

set_option maxRecDepth 100000 in
set_option maxHeartbeats 16000000 in
theorem refEach_any (d : Int) (φ : Cl → Cl) (x : Cl) (ps : Value) (A0 : Option Addr) (c0 : Nat) (l : List Cl) (size f t : Int) (hl : l.length ≤ 100000) (w : World) (hr : RCells w A0 l)
    (hOne : ∀ y ∈ l, ∀ W, Below w.heap.size w W → Calls Tryd.prog 31 #[.int .i64 d, y.val, x.val, ps] W fun e w' => e = .returned (φ y).val ∧ Below W.heap.size W w') :
    Calls Tryd.prog 8 #[.int .i64 d, lineV A0 l.length c0 size, .int .i64 f, .int .i64 t, x.val, ps] w fun e w' => ∃ A c, e = .returned (lineV A l.length c size) ∧ OCells w' (w.heap.size + 3) (.slice A l.length c) (updP (deedC φ (loP f) (hiP l.length t)) l l.length) ∧ Below w.heap.size w w' := by
  have HCells := Lib.hid (fun c W h => cells_any A0 c l hl W h)
  have HIn := Lib.hid (fun (i : Nat) W => (by have := in_any A0 l.length c0 size i f t W; rw [inP_nat] at this; exact this : Calls Tryd.prog 30 #[lineV A0 l.length c0 size, .int .i64 (i : Int), .int .i64 f, .int .i64 t] W fun e w' => e = .returned (.bool (decide (loP f ≤ i ∧ i < hiP l.length t))) ∧ Below W.heap.size W w'))
  have HOne := Lib.hid hOne
  have HR := Lib.hid hr
  clear hr hOne
  obtain ⟨xg, xr, xk⟩ := x
  unfold Cl.val at HOne
  unfold lineV Cl.val at *
  generalize loP f = F at *
  generalize hiP l.length t = T at *
  have HK := Lib.hid (mid3_start w #[.slice A0 l.length c0, .int .i64 size] #[.int .i32 xg, .int .u8 xr, .bool xk] #[.slice none 0 0, .int .i64 0])
  go_enter Tryd.func8, Tryd.ntmps8
  go_wp2_with fail
  have HR1 := Lib.hid (HR.out.next HK.out.2.2.2)
  have hz1 : (((w.alloc (.cells #[.slice A0 l.length c0, .int .i64 size] 24)).alloc (.cells #[.int .i32 xg, .int .u8 xr, .bool xk] 29)).alloc (.cells #[.slice none 0 0, .int .i64 0] 24)).heap.size = w.heap.size + 3 := by simp
  have HZ1 := Lib.hid hz1
  clear hz1
  generalize ((w.alloc (.cells #[.slice A0 l.length c0, .int .i64 size] 24)).alloc (.cells #[.int .i32 xg, .int .u8 xr, .bool xk] 29)).alloc (.cells #[.slice none 0 0, .int .i64 0] 24) = W1 at *
  have HC := Lib.hid (fun w' (h : Only [] W1 w') => cells2 (HK.out.1.next h.below0))
  refine wp_region_mix_lit (by kernel_rfl) [(2, .letter (SlP l.length) (SlF W1.heap.size l)), (6, .alloc 7 24 #[.slice none 0 0, .int .i64 0] (fun β => #[β 2, .int .i64 size])), (7, .init 6)] (by kernel_rfl) (by kernel_rfl) (by kernel_rfl) (by rfl) (by simp [apartK] <;> omega) (by simp [startK]) (by repeat (first | (refine List.forall_mem_cons.2 ⟨?_, ?_⟩; (first | exact trivial | exact slF_stab _ _ _ (by simp [boxes, Kind.boxed]))) | (intro x hx; cases hx; done))) (⟨fun i => if i = 6 then .pointer (some ⟨W1.heap.size, 0, none⟩) else .slice none l.length l.length, by repeat (first | (refine List.forall_mem_cons.2 ⟨?_, ?_⟩; (first | exact trivial | exact ⟨none, _, rfl, Nat.le_refl _⟩ | exact ⟨_, rfl, Nat.le_refl _⟩)) | (intro x hx; cases hx; done))⟩) (fun β hβ => ?_)
  obtain ⟨A, c, e1, _⟩ := (hβ 2 : SlP l.length (β 2))
  repeat (
    refine lex_val (v := ?_) rfl rfl (fun w' hf => ?_) ?_
    rotate_left
    · obtain ⟨c0', c1', _, _⟩ := HC.out w' hf.only; go_simp
      try rfl
    try simp only [Act.put, List.setIfInBounds_toArray, List.set_cons_zero, List.set_cons_succ])
  refine lex_letter (f := 27) (args := ?_) rfl rfl (fun w' hf => ?_) (fun w' hf => ?_) ?_
  rotate_left
  · go_simp
    try rfl
  · exact sl_own hf.only.size rfl (HCells.out c0 w' (HR1.out.next hf.only.below0))
  try simp only [Act.put, List.setIfInBounds_toArray, List.set_cons_zero, List.set_cons_succ]
  repeat (
    refine lex_val (v := ?_) rfl rfl (fun w' hf => ?_) ?_
    rotate_left
    · obtain ⟨c0', c1', _, _⟩ := HC.out w' hf.only; go_simp
      try rfl
    try simp only [Act.put, List.setIfInBounds_toArray, List.set_cons_zero, List.set_cons_succ])
  refine lex_alloc rfl rfl (fun w' => ?_) ?_
  · go_simp
  try simp only [Act.put, List.setIfInBounds_toArray, List.set_cons_zero, List.set_cons_succ]
  refine lex_init rfl rfl rfl (fun b w' hb hf hB => ⟨_, ?_, (repl2 hB (.slice A l.length c) (.int .i64 size)).to (by show _ = #[β 2, _]; rw [e1]; rfl)⟩) ?_
  · have gB := cells2 hB
    go_simp
  try simp only [Act.put]
  refine lex_nil fun W2 he => ?_
  obtain ⟨B, hB, hBge, hblk⟩ := he.facts 6
  replace hblk : Blk W2 B 24 #[β 2, .int .i64 size] := hblk
  have hO2 : SlF W1.heap.size l (β 2) W2 := (he.facts 2).2
  rw [e1] at hblk hO2
  have hM : Mid3 w #[.slice A0 l.length c0, .int .i64 size] #[.int .i32 xg, .int .u8 xr, .bool xk] #[.slice none 0 0, .int .i64 0] B A l.length c size l W2 := ⟨HK.out.1.next he.only.below0, HK.out.2.1.next he.only.below0, HK.out.2.2.1.next he.only.below0, HK.out.2.2.2.trans (he.only.below (B := w.heap.size) (by rw [HZ1.out]; omega) (fun k hk => by cases hk)), hblk, by have := hO2.own rfl; rw [HZ1.out] at this; exact this, by rw [HZ1.out] at hBge; exact hBge⟩
  have HM2 := Lib.hid hM
  rw [hB]
  clear he hβ hblk hO2 e1 HK HC HR1 hM hB hBge HZ1
  generalize β (0 + 1 + 1) = v2
  have HLn := Lib.hid (fun k => updP_len (deedC φ F T) l k)
  go_wp2_with fail
  go_loopw [14] (fun i wr => ∃ k : Nat, k ≤ l.length ∧ i = .int .i64 k ∧ Mid3 w #[.slice A0 l.length c0, .int .i64 size] #[.int .i32 xg, .int .u8 xr, .bool xk] #[.slice none 0 0, .int .i64 0] B A l.length c size (updP (deedC φ F T) l k) wr) (fun i _ => l.length - (intOf i).toNat)
  case atStart => exact ⟨0, by omega, rfl, by rw [updP_zero]; exact HM2.out⟩
  case round =>
    obtain ⟨k, hk, rfl, hmid⟩ := hrel
    have HM := Lib.hid hmid
    clear hmid
    obtain ⟨c0', c1', _, _⟩ := cells2 HM.out.b0
    by_cases hlt : k < l.length
    · by_cases hin : F ≤ k ∧ k < T
      · have HI := Lib.hid (fun W => HIn.out k W)
        rw [decide_eq_true hin] at HI
        have hlen := HLn.out k
        have hlen2 := Lib.hid hlen.symm
        have hk' : k < (updP (deedC φ F T) l k).length := by rw [hlen]; exact hlt
        obtain ⟨g, cap, hv, hg, _⟩ := World.ownsRow.form (show wr.ownsRow _ _ _ _ _ _ from HM.out.own) (by omega)
        simp only [Value.slice.injEq] at hv
        obtain ⟨rfl, -, rfl⟩ := hv
        obtain ⟨cur, hcur⟩ := own_blk HM.out.own
        have hgB := ne_block hcur HM.out.box
        have HSt := Lib.hid (updP_set (deedC φ F T) l k hlt (φ l[k]) (by unfold deedC; rw [if_pos hin]))
        clear hlen
        obtain ⟨ad, rfl, _⟩ := HR.out.2 (by omega)
        go_wp2_with fail
        refine (HI.out _).mono ?_
        rintro e w1 ⟨rfl, hb1⟩
        have HM1 := Lib.hid (HM.out.next hb1)
        have HCur1 := Lib.hid (hcur.next hb1)
        clear hb1 c0' c1' hcur HI
        have HC := Lib.hid (fun w' (h : Only [g] w1 w') => And.intro (cells2 (h.blk HM1.out.box (by simp; exact fun e => hgB e.symm))) (And.intro (cells2 (h.blk HM1.out.b0 (by simp; omega))) (And.intro (cells3 (h.blk HM1.out.b1 (by simp; omega))) (RCells.cell3 (HR.out.next (HM1.out.below.trans (h.below HM1.out.below.size (by simp; omega)))) hlt))))
        have HOn := Lib.hid (fun w' (h : Only [g] w1 w') => HOne.out l[k] (List.getElem_mem _) w' (HM1.out.below.trans (h.below HM1.out.below.size (by simp; omega))))
        generalize updP (deedC φ F T) l k = L at *
        generalize l[k] = y at *
        obtain ⟨yg, yr, yk⟩ := y
        generalize φ ⟨yg, yr, yk⟩ = v at *
        simp only at HC HOn
        go_wp2_with fail
        refine wp_region_mix_lit (by kernel_rfl) [(11, .call v.val), (13, .store g 29 cur (fun _ => set3 cur (k * 3) v))] (by kernel_rfl) (by kernel_rfl) (by kernel_rfl) (by rfl) (by simp [apartK] <;> omega) (by simp [startK]; exact HCur1.out) (by simp [stabK]) (⟨fun _ => undef, by simp [okK]⟩) (fun β hβ => ?_)
        repeat (
          refine lex_val (v := ?_) rfl rfl (fun w' hf => ?_) ?_
          rotate_left
          · obtain ⟨⟨b0, b1, _, _⟩, ⟨c0', c1', _, _⟩, ⟨z0, z1, z2⟩, s0, s1, s2⟩ := HC.out w' hf.only; go_simp
            try rfl
          try simp only [Act.put, List.setIfInBounds_toArray, List.set_cons_zero, List.set_cons_succ])
        refine lex_call (f := 31) (args := ?_) rfl rfl (fun w' hf => ?_) (fun w' hf => ?_) ?_
        rotate_left
        · go_simp
          try rfl
        · exact HOn.out w' hf.only
        try simp only [Act.put, List.setIfInBounds_toArray, List.set_cons_zero, List.set_cons_succ]
        repeat (
          refine lex_val (v := ?_) rfl rfl (fun w' hf => ?_) ?_
          rotate_left
          · obtain ⟨⟨b0, b1, _, _⟩, ⟨c0', c1', _, _⟩, ⟨z0, z1, z2⟩, s0, s1, s2⟩ := HC.out w' hf.only; go_simp
            try rfl
          try simp only [Act.put, List.setIfInBounds_toArray, List.set_cons_zero, List.set_cons_succ])
        refine lex_store rfl rfl (fun w' hf hB => ⟨_, ?_, repl3 hB (k * 3) v⟩) ?_
        · obtain ⟨d0, d1, d2, f0, f1, f2⟩ := cur3 HM1.out.own hlen2.out hk' HCur1.out hB
          unfold Cl.val
          go_simp
        try simp only [Act.put]
        refine lex_nil fun w2 he => ?_
        have hblk : Blk w2 g 29 (set3 cur (k * 3) v) := he.facts 13
        have hM2 := HM1.out.set he.only hg hgB (own_set HM1.out.own hlen2.out hk' v HCur1.out hblk)
        rw [HSt.out] at hM2
        have HM2 := Lib.hid hM2
        clear he hβ hblk HC HM1 HCur1 hM2
        go_wp2_with fail
        go_roundw
        case rel => exact ⟨k + 1, by omega, by go_num, HM2.out⟩
        case measure => simp [intOf]; omega
      · have HI := Lib.hid (fun W => HIn.out k W)
        rw [decide_eq_false hin] at HI
        have HS := Lib.hid (updP_skip (deedC φ F T) l k hlt (by unfold deedC; rw [if_neg hin]))
        clear hin
        go_wp2_with fail
        refine (HI.out _).mono ?_
        rintro e w1 ⟨rfl, hb1⟩
        have HM1 := Lib.hid (HM.out.next hb1)
        clear hb1 c0' c1'
        go_wp2_with fail
        go_roundw
        case rel => exact ⟨k + 1, by omega, by go_num, by rw [HS.out]; exact HM1.out⟩
        case measure => simp [intOf]; omega
    · obtain rfl : k = l.length := by omega
      obtain ⟨b0, b1, _, _⟩ := cells2 HM.out.box
      obtain ⟨c2, c3, f2, f3⟩ := cells2 HM.out.b2
      obtain ⟨e0, e1, h3, h4⟩ := HM.out.fin
      have HF3 := Lib.hid h3; have HF4 := Lib.hid h4
      clear h3 h4
      go_wp2_with fail
      exact bodyPost_ret (v := .agg #[.slice A l.length c, .int .i64 size]) (by simp [results, Tryd.results8, go_sem, e0, e1]) rfl ⟨A, c, rfl, HF3.out, HF4.out⟩
end Go.Proofs.YtflnjlcdpmmjlaaDoor

/-
  The walks of the reference's Move, Insert and Delete.
-/
import Derived.Test.YtngklakdbagjpaaLineT
import Derived.Test.YtngklakdbagjpaaLineX
namespace Go.Proofs.Ytngklakdbagjpaa
open Go Go.RowKit

theorem al (w : World) (o : Obj) : Below w.heap.size w (w.alloc o) := (Below.refl _ _).alloc (Nat.le_refl _) _
/-- A slice of cells as a letter. -/
def SlP (n : Nat) (u : Value) : Prop := ∃ A c, u = .slice A n c ∧ n ≤ c
def SlF (B : Nat) (L : List Cl) (u : Value) (W : World) : Prop := ∃ A c base, u = .slice A L.length c ∧ B ≤ base ∧ OCells W base (.slice A L.length c) L
theorem slF_stab (ks : Kinds) (wr : World) (L : List Cl) (ht : 38 ∉ boxes ks) : ∀ v w w', Kept ks wr w w' → SlF wr.heap.size L v w → SlF wr.heap.size L v w' := by
  rintro v w w' hk ⟨A, c, base, e, hb, ho⟩
  refine ⟨A, c, base, e, hb, ho.1, ?_⟩
  rcases ho.2 with hn | ⟨g, cap, cur, hv, hg, hh, rest⟩
  · exact .inl hn
  · refine .inr ⟨g, cap, cur, hv, hg, ?_, rest⟩
    rw [hk.block g (Blk.lt (show Blk w g _ cur from hh)) (by omega) (fun cs T fr e => by
      have e2 : some (Obj.cells cur 38 (0, 0)) = some (.cells cs T fr) := hh.symm.trans e
      injection e2 with e2
      injection e2 with _ e3 _
      rw [← e3]; exact ht)]
    exact hh
theorem sl_own {W : World} {B n : Nat} {f : FuncId} {args : Array Value} {l : List Cl} (hB : B ≤ W.heap.size) (hn : n = l.length) (h : Calls Try.prog f args W fun e w' => ∃ v, e = .returned v ∧ OCells w' W.heap.size v l ∧ Below W.heap.size W w') :
    Calls Try.prog f args W fun e w' => ∃ u, e = .returned u ∧ SlP n u ∧ SlF B l u w' ∧ Below W.heap.size W w' :=
  h.mono fun e w' ⟨v, he, ho, hb⟩ => by
    obtain ⟨A, c, rfl, hc⟩ := OCells.form ho
    exact ⟨_, he, ⟨A, c, by rw [hn], by omega⟩, ⟨A, c, _, rfl, hB, ho⟩, hb⟩
theorem SlF.own {B n c : Nat} {L : List Cl} {A : Option Addr} {W : World} (h : SlF B L (.slice A n c) W) (hn : n = L.length) : OCells W B (.slice A n c) L := by
  obtain ⟨A', c', base, e, hb, ho⟩ := h
  subst hn
  injection e with e1 e2 e3
  subst e1 e3
  exact World.ownsRow.mono ho hb
/-- A row of one's own stays while its block does. -/
theorem own_block {W W' : World} {b g n c : Nat} {L : List Cl} (h : OCells W b (.slice (some ⟨g, 0, none⟩) n c) L) (e : W'.heap[g]? = W.heap[g]?) : OCells W' b (.slice (some ⟨g, 0, none⟩) n c) L := by
  refine ⟨h.1, ?_⟩
  rcases h.2 with hn | ⟨g', cap, cur, hv, hg, hh, rest⟩
  · exact .inl hn
  · have hv2 := hv
    simp only [Value.slice.injEq, Option.some.injEq, Addr.mk.injEq, and_true] at hv2
    obtain ⟨rfl, _, _⟩ := hv2
    exact .inr ⟨g, cap, cur, hv, hg, e.trans hh, rest⟩
theorem own_blk {W : World} {b g n c : Nat} {L : List Cl} (h : OCells W b (.slice (some ⟨g, 0, none⟩) n c) L) : ∃ cur, Blk W g 38 cur := by
  rcases h.2 with ⟨hv, _⟩ | ⟨g', cap, cur, hv, _, hh, _⟩
  · cases hv
  · simp only [Value.slice.injEq, Option.some.injEq, Addr.mk.injEq, and_true] at hv
    obtain ⟨rfl, _, _⟩ := hv
    exact ⟨cur, hh⟩
/-- Three cells of a block, one behind the other. -/
def set3 (cs : Array Value) (i : Nat) (x : Cl) : Array Value := ((cs.setIfInBounds i (.int .i32 x.g)).setIfInBounds (i + 1) (.int .u8 x.r)).setIfInBounds (i + 2) (.bool x.k)
theorem repl3 {w : World} {b : Nat} {T : TypeId} {cs : Array Value} (h : Blk w b T cs) (i : Nat) (x : Cl) : Repl w (((w.setCell ⟨b, i, none⟩ (.int .i32 x.g)).setCell ⟨b, i + 1, none⟩ (.int .u8 x.r)).setCell ⟨b, i + 2, none⟩ (.bool x.k)) b T (set3 cs i x) :=
  (Repl.set h i _).trans ((Repl.set (h.set_ i _) (i + 1) _).trans (Repl.set ((h.set_ i _).set_ (i + 1) _) (i + 2) _))
theorem own_set {W W' : World} {b g n c : Nat} {L : List Cl} {cur : Array Value} (h : OCells W b (.slice (some ⟨g, 0, none⟩) n c) L) (hn : n = L.length) {k : Nat} (hk : k < L.length) (x : Cl) (hc : Blk W g 38 cur) (h' : Blk W' g 38 (set3 cur (k * 3) x)) :
    OCells W' b (.slice (some ⟨g, 0, none⟩) n c) (L.set k x) := by
  refine own_block (OCells.set3 h hn hk x) ?_
  have e := ((hc.set_ (k * 3) (.int .i32 x.g)).set_ (k * 3 + 1) (.int .u8 x.r)).set_ (k * 3 + 2) (.bool x.k)
  exact h'.trans e.symm
/-- What stands at a place of a row. -/
theorem cur3 {W : World} {b g n c : Nat} {L : List Cl} {cur : Array Value} (h : OCells W b (.slice (some ⟨g, 0, none⟩) n c) L) (hn : n = L.length) {k : Nat} (hk : k < L.length) (hc : Blk W g 38 cur) {w' : World} (hB : Blk w' g 38 cur) :
    w'.cell? ⟨g, k * 3, none⟩ = some (.int .i32 L[k].g) ∧ w'.cell? ⟨g, k * 3 + 1, none⟩ = some (.int .u8 L[k].r) ∧ w'.cell? ⟨g, k * 3 + 2, none⟩ = some (.bool L[k].k) ∧ w'.frozen? ⟨g, k * 3, none⟩ = false ∧ w'.frozen? ⟨g, k * 3 + 1, none⟩ = false ∧ w'.frozen? ⟨g, k * 3 + 2, none⟩ = false := by
  obtain ⟨d0, d1, d2, _⟩ := OCells.cell3 h hn hk
  rw [Blk.cell hc] at d0 d1 d2
  exact ⟨(hB.cell _).trans d0, (hB.cell _).trans d1, (hB.cell _).trans d2, hB.frozen _, hB.frozen _, hB.frozen _⟩
theorem ne_block {W : World} {g B : Nat} {x y : Array Value} (h : Blk W g 38 x) (h' : Blk W B 24 y) : g ≠ B := by
  rintro rfl
  unfold Blk at h h'
  rw [h] at h'
  injection h' with e
  injection e with _ e2
  exact absurd e2 (by decide)
theorem only_far {g : Nat} {W W' : World} (h : Only [g] W W') : W.grownBy W' (some g) := ⟨h.os, h.tape, h.output, h.size, fun k hk hne => h.block k hk (by simp; rintro rfl; exact hne rfl)⟩

/-- What is known in the midst of such a walk: the argument's box and that of what is answered, the box of what is made, its row. -/
structure Mid (w : World) (x y : Array Value) (B : Nat) (A : Option Addr) (n c : Nat) (size : Int) (L : List Cl) (W : World) : Prop where
  kl : KL w x y W
  box : Blk W B 24 #[.slice A n c, .int .i64 size]
  own : OCells W (w.heap.size + 2) (.slice A n c) L
  far : w.heap.size + 2 ≤ B
theorem Mid.next {w W W' : World} {x y : Array Value} {B n c : Nat} {A : Option Addr} {size : Int} {L : List Cl} (h : Mid w x y B A n c size L W) (hb : Below W.heap.size W W') : Mid w x y B A n c size L W' :=
  ⟨h.kl.next hb, h.box.next hb, h.own.next hb, h.far⟩
theorem Mid.set {w W W' : World} {x y : Array Value} {B n c g : Nat} {size : Int} {L L' : List Cl} (h : Mid w x y B (some ⟨g, 0, none⟩) n c size L W) (ho : Only [g] W W') (hg : w.heap.size + 2 ≤ g) (hne : g ≠ B) (hl : OCells W' (w.heap.size + 2) (.slice (some ⟨g, 0, none⟩) n c) L') : Mid w x y B (some ⟨g, 0, none⟩) n c size L' W' :=
  ⟨h.kl.far (only_far ho) hg, h.box.grown (only_far ho) (by simpa using fun e => hne e.symm), hl, h.far⟩
theorem Mid.fin {w W : World} {a b : Value} {B n c : Nat} {A : Option Addr} {size : Int} {L : List Cl} (h : Mid w #[a, b] #[.slice none 0 0, .int .i64 0] B A n c size L W) :
    ((W.setCell ⟨w.heap.size + 1, 0, none⟩ (.slice A n c)).setCell ⟨w.heap.size + 1, 1, none⟩ (.int .i64 size)).cell? ⟨w.heap.size + 1, 0, none⟩ = some (.slice A n c) ∧
    ((W.setCell ⟨w.heap.size + 1, 0, none⟩ (.slice A n c)).setCell ⟨w.heap.size + 1, 1, none⟩ (.int .i64 size)).cell? ⟨w.heap.size + 1, 1, none⟩ = some (.int .i64 size) ∧
    OCells ((W.setCell ⟨w.heap.size + 1, 0, none⟩ (.slice A n c)).setCell ⟨w.heap.size + 1, 1, none⟩ (.int .i64 size)) (w.heap.size + 2) (.slice A n c) L ∧
    Below w.heap.size w ((W.setCell ⟨w.heap.size + 1, 0, none⟩ (.slice A n c)).setCell ⟨w.heap.size + 1, 1, none⟩ (.int .i64 size)) := by
  have h2 := KL.store2 h.kl (.slice A n c) (.int .i64 size)
  exact ⟨(KL.res h2).1, (KL.res h2).2.1, OCells.far (OCells.far h.own (by omega) _ _) (by omega) _ _, h2.2.2⟩

theorem RCells.cell3 {w : World} {ad : Addr} {l : List Cl} (h : RCells w (some ad) l) {k : Nat} (hk : k < l.length) :
    w.cell? (ad.add (k * 3)) = some (.int .i32 l[k].g) ∧ w.cell? ⟨(ad.add (k * 3)).block, (ad.add (k * 3)).off + 1, none⟩ = some (.int .u8 l[k].r) ∧ w.cell? ⟨(ad.add (k * 3)).block, (ad.add (k * 3)).off + 2, none⟩ = some (.bool l[k].k) := by
  obtain ⟨ad', e, _, h0, h1, h2⟩ := h.at_ hk
  injection e with e
  subst e
  exact ⟨h0, h1, h2⟩

set_option maxRecDepth 100000 in
set_option maxHeartbeats 16000000 in
theorem refMove_any (A0 : Option Addr) (c0 : Nat) (l : List Cl) (size f t q : Int) (hl : l.length ≤ 100000) (w : World) (hr : RCells w A0 l) :
    Calls Try.prog 37 #[lineV A0 l.length c0 size, .int .i64 f, .int .i64 t, .int .i64 q] w fun e w' => ∃ A c, e = .returned (lineV A l.length c size) ∧ OCells w' (w.heap.size + 2) (.slice A l.length c) (updP (movC l (loP f) (hiP l.length t) (clampP q (-(hiP l.length t - loP f : Nat)) (hiP l.length t - loP f : Nat))) l l.length) ∧ Below w.heap.size w w' := by
  have HCe := Lib.hid (fun W h => cells_any A0 0 l hl W h)
  have HCells := Lib.hid (fun c W h => cells_any A0 c l hl W h)
  have HCt := Lib.hid (fun W => count_any A0 l.length c0 size f t hl W)
  have HIn := Lib.hid (fun (i : Int) W => (by have := in_any A0 l.length c0 size i f t W; rw [inP_int] at this; exact this : Calls Try.prog 38 #[lineV A0 l.length c0 size, .int .i64 i, .int .i64 f, .int .i64 t] W fun e w' => e = .returned (.bool (decide ((loP f : Int) ≤ i ∧ i < hiP l.length t))) ∧ Below W.heap.size W w'))
  have HCl := Lib.hid (fun a b W => clamp_any q a b W)
  have HEr := Lib.hid (fun W => refErased_any W)
  have hT : hiP l.length t ≤ l.length := by unfold hiP; omega
  have HR := Lib.hid hr
  clear hr HCe
  unfold lineV at *
  generalize loP f = F at *
  generalize hiP l.length t = T at *
  have hcl : -(T - F : Nat) ≤ clampP q (-(T - F : Nat)) (T - F : Nat) ∧ clampP q (-(T - F : Nat)) (T - F : Nat) ≤ (T - F : Nat) := by unfold clampP; split <;> (try split) <;> omega
  have HCl2 := Lib.hid (fun W => HCl.out (-(T - F : Nat)) (T - F : Nat) W)
  clear HCl
  generalize clampP q (-(T - F : Nat)) (T - F : Nat) = z at *
  have HK := Lib.hid (KL.start w #[.slice A0 l.length c0, .int .i64 size] #[.slice none 0 0, .int .i64 0])
  go_enter Try.func37, Try.ntmps37
  go_wp2_with fail
  have HR1 := Lib.hid (HR.out.next HK.out.2.2)
  have hz1 : ((w.alloc (.cells #[.slice A0 l.length c0, .int .i64 size] 24)).alloc (.cells #[.slice none 0 0, .int .i64 0] 24)).heap.size = w.heap.size + 2 := by simp
  have HZ1 := Lib.hid hz1
  clear hz1
  generalize (w.alloc (.cells #[.slice A0 l.length c0, .int .i64 size] 24)).alloc (.cells #[.slice none 0 0, .int .i64 0] 24) = W1 at *
  have HC := Lib.hid (fun w' (h : Only [] W1 w') => KL.two (HK.out.next h.below0))
  refine wp_region_mix_lit (by kernel_rfl) [(2, .letter (SlP l.length) (SlF W1.heap.size l)), (6, .alloc 7 24 #[.slice none 0 0, .int .i64 0] (fun β => #[β 2, .int .i64 size])), (7, .init 6)] (by kernel_rfl) (by kernel_rfl) (by kernel_rfl) (by rfl) (by simp [apartK] <;> omega) (by simp [startK]) (by repeat (first | (refine List.forall_mem_cons.2 ⟨?_, ?_⟩; (first | exact trivial | exact slF_stab _ _ _ (by simp [boxes, Kind.boxed]))) | (intro x hx; cases hx; done))) (⟨fun i => if i = 6 then .pointer (some ⟨W1.heap.size, 0, none⟩) else .slice none l.length l.length, by repeat (first | (refine List.forall_mem_cons.2 ⟨?_, ?_⟩; (first | exact trivial | exact ⟨none, _, rfl, Nat.le_refl _⟩ | exact ⟨_, rfl, Nat.le_refl _⟩)) | (intro x hx; cases hx; done))⟩) (fun β hβ => ?_)
  obtain ⟨A, c, e1, _⟩ := (hβ 2 : SlP l.length (β 2))
  repeat (
    refine lex_val (v := ?_) rfl rfl (fun w' hf => ?_) ?_
    rotate_left
    · obtain ⟨c0', c1'⟩ := HC.out w' hf.only; go_simp
      try rfl
    try simp only [Act.put, List.setIfInBounds_toArray, List.set_cons_zero, List.set_cons_succ])
  refine lex_letter (f := 18) (args := ?_) rfl rfl (fun w' hf => ?_) (fun w' hf => ?_) ?_
  rotate_left
  · go_simp
    try rfl
  · exact sl_own hf.only.size rfl (HCells.out c0 w' (HR1.out.next hf.only.below0))
  try simp only [Act.put, List.setIfInBounds_toArray, List.set_cons_zero, List.set_cons_succ]
  repeat (
    refine lex_val (v := ?_) rfl rfl (fun w' hf => ?_) ?_
    rotate_left
    · obtain ⟨c0', c1'⟩ := HC.out w' hf.only; go_simp
      try rfl
    try simp only [Act.put, List.setIfInBounds_toArray, List.set_cons_zero, List.set_cons_succ])
  refine lex_alloc rfl rfl (fun w' => ?_) ?_
  · go_simp
  try simp only [Act.put, List.setIfInBounds_toArray, List.set_cons_zero, List.set_cons_succ]
  refine lex_init rfl rfl rfl (fun b w' hb hf hB => ⟨_, ?_, (repl2 hB (.slice A l.length c) (.int .i64 size)).to (by show _ = #[β 2, _]; rw [e1]; rfl)⟩) ?_
  · have gB := cells2 hB
    go_simp
  try simp only [Act.put]
  refine lex_nil fun W2 he => ?_
  obtain ⟨B, hB, hBge, hblk⟩ := he.facts 6
  replace hblk : Blk W2 B 24 #[β 2, .int .i64 size] := hblk
  have hO2 : SlF W1.heap.size l (β 2) W2 := (he.facts 2).2
  rw [e1] at hblk hO2
  have hM : Mid w #[.slice A0 l.length c0, .int .i64 size] #[.slice none 0 0, .int .i64 0] B A l.length c size l W2 := ⟨HK.out.next he.only.below0, hblk, by have := hO2.own rfl; rw [HZ1.out] at this; exact this, by rw [HZ1.out] at hBge; exact hBge⟩
  have HM2 := Lib.hid hM
  rw [hB]
  clear he hβ hblk hO2 e1 HK HC HR1 hM hB hBge HZ1
  obtain ⟨c0', c1'⟩ := KL.two HM2.out.kl
  go_wp2_with fail
  refine (HCt.out _).mono ?_
  rintro e W3 ⟨rfl, hb3⟩
  have HM3 := Lib.hid (HM2.out.next hb3)
  clear hb3 HM2 c0' c1'
  have hM100 : T - F ≤ 100000 := by omega
  generalize firstP F T = fst at *
  go_wp2_with fail
  refine (HCl2.out _).mono ?_
  rintro e w4 ⟨rfl, rfl⟩
  have HLn := Lib.hid (fun k => updP_len (movC l F T z) l k)
  go_wp2_with fail
  go_loopw [12] (fun i wr => ∃ k : Nat, k ≤ l.length ∧ i = .int .i64 k ∧ Mid w #[.slice A0 l.length c0, .int .i64 size] #[.slice none 0 0, .int .i64 0] B A l.length c size (updP (movC l F T z) l k) wr) (fun i _ => l.length - (intOf i).toNat)
  case atStart => exact ⟨0, by omega, rfl, by rw [updP_zero]; exact HM3.out⟩
  case round =>
    obtain ⟨k, hk, rfl, hmid⟩ := hrel
    have HM := Lib.hid hmid
    clear hmid
    obtain ⟨c0', c1'⟩ := KL.two HM.out.kl
    by_cases hlt : k < l.length
    · by_cases hin : F ≤ k ∧ k < T
      · have HI := Lib.hid (fun W => HIn.out k W)
        rw [decide_eq_true (by omega)] at HI
        have hlen := HLn.out k
        have hlen2 := Lib.hid hlen.symm
        have hk' : k < (updP (movC l F T z) l k).length := by rw [hlen]; exact hlt
        obtain ⟨g, cap, hv, hg, _⟩ := World.ownsRow.form (show wr.ownsRow _ _ _ _ _ _ from HM.out.own) (by omega)
        simp only [Value.slice.injEq] at hv
        obtain ⟨rfl, -, rfl⟩ := hv
        obtain ⟨cur, hcur⟩ := own_blk HM.out.own
        have hgB := ne_block hcur HM.out.box
        have HSt := Lib.hid (updP_set (movC l F T z) l k hlt)
        have HMv : Hid (∀ x, (if (F : Int) ≤ k - z ∧ k - z < T then l.getD (k - z).toNat blankC else blankC) = x → movC l F T z k l[k] = x) := Lib.hid (fun x hx => by unfold movC; rw [if_pos hin]; exact hx)
        clear hlen
        go_wp2_with fail
        refine (HI.out _).mono ?_
        rintro e w1 ⟨rfl, hb1⟩
        have HM1 := Lib.hid (HM.out.next hb1)
        have HCur1 := Lib.hid (hcur.next hb1)
        clear hb1 c0' c1' hcur HI
        generalize updP (movC l F T z) l k = L at *
        have HC := Lib.hid (fun w' (h : Only [g] w1 w') => cells2 (h.blk HM1.out.box (by simp; exact fun e => hgB e.symm)))
        go_wp2_with fail
        refine wp_region_mix_lit (by kernel_rfl) [(3, .call (Cl.val blankC)), (5, .store g 38 cur (fun _ => set3 cur (k * 3) blankC))] (by kernel_rfl) (by kernel_rfl) (by kernel_rfl) (by rfl) (by simp [apartK] <;> omega) (by simp [startK]; exact HCur1.out) (by simp [stabK]) (⟨fun _ => undef, by simp [okK]⟩) (fun β hβ => ?_)
        repeat (
          refine lex_val (v := ?_) rfl rfl (fun w' hf => ?_) ?_
          rotate_left
          · obtain ⟨b0, b1, _, _⟩ := HC.out w' hf.only; go_simp
            try rfl
          try simp only [Act.put, List.setIfInBounds_toArray, List.set_cons_zero, List.set_cons_succ])
        refine lex_call (f := 41) (args := ?_) rfl rfl (fun w' hf => ?_) (fun w' hf => ?_) ?_
        rotate_left
        · go_simp
          try rfl
        · exact HEr.out w'
        try simp only [Act.put, List.setIfInBounds_toArray, List.set_cons_zero, List.set_cons_succ]
        repeat (
          refine lex_val (v := ?_) rfl rfl (fun w' hf => ?_) ?_
          rotate_left
          · obtain ⟨b0, b1, _, _⟩ := HC.out w' hf.only; go_simp
            try rfl
          try simp only [Act.put, List.setIfInBounds_toArray, List.set_cons_zero, List.set_cons_succ])
        refine lex_store rfl rfl (fun w' hf hB => ⟨_, ?_, repl3 hB (k * 3) blankC⟩) ?_
        · obtain ⟨d0, d1, d2, f0, f1, f2⟩ := cur3 HM1.out.own hlen2.out hk' HCur1.out hB
          unfold Cl.val blankC
          go_simp
        try simp only [Act.put]
        refine lex_nil fun w2 he => ?_
        have hblk : Blk w2 g 38 (set3 cur (k * 3) blankC) := he.facts 5
        have HM2 := Lib.hid (HM1.out.set he.only hg hgB (own_set HM1.out.own hlen2.out hk' blankC HCur1.out hblk))
        have HCur2 := Lib.hid hblk
        clear he hβ hblk HC HM1 HCur1
        obtain ⟨c0', c1'⟩ := KL.two HM2.out.kl
        have HI := Lib.hid (fun W => HIn.out (k - z) W)
        by_cases h2 : (F : Int) ≤ k - z ∧ k - z < T
        · rw [decide_eq_true h2] at HI
          obtain ⟨j, hj⟩ := Int.eq_ofNat_of_zero_le (show 0 ≤ (k : Int) - z by omega)
          have hjl : j < l.length := by omega
          have hS := HSt.out l[j] (HMv.out _ (by rw [if_pos h2, hj, Int.toNat_natCast, List.getD_eq_getElem?_getD, List.getElem?_eq_getElem hjl]; rfl))
          have HS := Lib.hid hS
          have HJ := Lib.hid hj
          clear hS h2 hj
          obtain ⟨ad, rfl, _⟩ := HR.out.2 (by omega)
          go_wp2_with fail
          refine (HI.out _).mono ?_
          rintro e w3 ⟨rfl, hb3⟩
          have HM3 := Lib.hid (HM2.out.next hb3)
          have HCur3 := Lib.hid (HCur2.out.next hb3)
          clear hb3 c0' c1' HI
          have hw0 : IntKind.i64.wrap ((k : Int) - z) = (j : Int) := by rw [IntWalk.i64_in _ (by omega)]; exact HJ.out
          have HW := Lib.hid hw0
          clear hw0
          have hne2 : w.heap.size + 2 ≤ g := hg
          have HC := Lib.hid (fun w' (h : Only [g] w3 w') => And.intro (cells2 (h.blk HM3.out.box (by simp; exact fun e => hgB e.symm))) (And.intro (cells2 (h.blk HM3.out.kl.1 (by simp; omega))) (RCells.cell3 (HR.out.next (HM3.out.kl.2.2.trans (h.below HM3.out.kl.2.2.size (by simp; omega)))) hjl)))
          have HLs := Lib.hid (show (L.set k blankC).length = l.length by rw [List.length_set]; exact hlen2.out.symm)
          have HSS := Lib.hid (show (L.set k blankC).set k l[j] = L.set k l[j] from by simp)
          generalize l[j] = x at *
          have hw := HW.out
          go_wp2_with fail
          --#1
          refine wp_region_mix_lit (by kernel_rfl) [(11, .store g 38 (set3 cur (k * 3) blankC) (fun _ => set3 (set3 cur (k * 3) blankC) (k * 3) x))] (by kernel_rfl) (by kernel_rfl) (by kernel_rfl) (by rfl) (by simp [apartK] <;> omega) (by simp [startK]; exact HCur3.out) (by simp [stabK]) (⟨fun _ => undef, by simp [okK]⟩) (fun β hβ => ?_)
          repeat (
            refine lex_val (v := ?_) rfl rfl (fun w' hf => ?_) ?_
            rotate_left
            · obtain ⟨⟨b0, b1, _, _⟩, ⟨c0', c1', _, _⟩, s0, s1, s2⟩ := HC.out w' hf.only; go_simp
              try rfl
            try simp only [Act.put, List.setIfInBounds_toArray, List.set_cons_zero, List.set_cons_succ])
          --#2
          refine lex_store rfl rfl (fun w' hf hB => ⟨_, ?_, repl3 hB (k * 3) x⟩) ?_
          · obtain ⟨d0, d1, d2, f0, f1, f2⟩ := cur3 HM3.out.own HLs.out.symm (k := k) (by rw [HLs.out]; exact hlt) HCur3.out hB
            go_simp
          try simp only [Act.put]
          refine lex_nil fun w4 he => ?_
          have hblk : Blk w4 g 38 (set3 (set3 cur (k * 3) blankC) (k * 3) x) := he.facts 11
          have hM4 := HM3.out.set he.only hg hgB (own_set HM3.out.own HLs.out.symm (k := k) (by rw [HLs.out]; exact hlt) x HCur3.out hblk)
          rw [HSS.out, HS.out] at hM4
          have HM4 := Lib.hid hM4
          clear he hβ hblk HC HM3 HCur3 hw hM4
          go_wp2_with fail
          go_roundw
          case rel => exact ⟨k + 1, by omega, by go_num, HM4.out⟩
          case measure => simp [intOf]; omega
        · rw [decide_eq_false h2] at HI
          have hS := HSt.out blankC (HMv.out _ (if_neg h2))
          have HS := Lib.hid hS
          clear hS h2
          go_wp2_with fail
          refine (HI.out _).mono ?_
          rintro e w3 ⟨rfl, hb3⟩
          have HM3 := Lib.hid (HM2.out.next hb3)
          clear hb3 c0' c1'
          go_wp2_with fail
          go_roundw
          case rel => exact ⟨k + 1, by omega, by go_num, by rw [← HS.out]; exact HM3.out⟩
          case measure => simp [intOf]; omega
      · have HI := Lib.hid (fun W => HIn.out k W)
        rw [decide_eq_false (by omega)] at HI
        have HS := Lib.hid (updP_skip (movC l F T z) l k hlt (by unfold movC; rw [if_neg hin]))
        clear hin
        go_wp2_with fail
        refine (HI.out _).mono ?_
        rintro e w1 ⟨rfl, hb1⟩
        have HM1 := Lib.hid (HM.out.next hb1)
        clear hb1 c0' c1'
        go_wp2_with fail
        go_roundw
        case rel => exact ⟨k + 1, by omega, by go_num, by rw [HS.out]; exact HM1.out⟩
        case measure => simp [intOf]; omega
    · obtain rfl : k = l.length := by omega
      have b0 : wr.cell? ⟨B, 0, none⟩ = some (.slice A l.length c) := HM.out.box.cell 0
      have b1 : wr.cell? ⟨B, 1, none⟩ = some (.int .i64 size) := HM.out.box.cell 1
      obtain ⟨c2, c3, f2, f3⟩ := KL.res HM.out.kl
      obtain ⟨e0, e1, h3, h4⟩ := HM.out.fin
      have HF3 := Lib.hid h3; have HF4 := Lib.hid h4
      clear h3 h4
      go_wp2_with fail
      exact bodyPost_ret (v := .agg #[.slice A l.length c, .int .i64 size]) (by simp [results, Try.results37, go_sem, e0, e1]) rfl ⟨A, c, rfl, HF3.out, HF4.out⟩
end Go.Proofs.Ytngklakdbagjpaa

/-
  The walks of the reference's Lay and Cut.
-/
import Derived.Test.YtngklakdbagjpaaLineV
namespace Go.Proofs.Ytngklakdbagjpaa
open Go Go.RowKit

set_option maxRecDepth 100000 in
set_option maxHeartbeats 16000000 in
theorem refLay_any (A0 : Option Addr) (c0 : Nat) (l : List Cl) (size f t : Int) (A2 : Option Addr) (c2 : Nat) (row : List Cl) (hl : l.length ≤ 100000) (w : World) (hr : RCells w A0 l) (hr2 : RCells w A2 row) :
    Calls Try.prog 21 #[lineV A0 l.length c0 size, .int .i64 f, .int .i64 t, .slice A2 row.length c2] w fun e w' => ∃ A c, e = .returned (lineV A l.length c size) ∧ OCells w' (w.heap.size + 2) (.slice A l.length c) (layP l (loP f) (hiP l.length t) row) ∧ Below w.heap.size w w' := by
  have hT : hiP l.length t ≤ l.length := by unfold hiP; omega
  rw [← lay_upd l (loP f) _ row hT]
  have HCells := Lib.hid (fun c W h => cells_any A0 c l hl W h)
  have HCt := Lib.hid (fun W => count_any A0 l.length c0 size f t hl W)
  have HIn := Lib.hid (fun (i : Nat) W => (by have := in_any A0 l.length c0 size i f t W; rw [inP_nat] at this; exact this : Calls Try.prog 38 #[lineV A0 l.length c0 size, .int .i64 (i : Int), .int .i64 f, .int .i64 t] W fun e w' => e = .returned (.bool (decide (loP f ≤ i ∧ i < hiP l.length t))) ∧ Below W.heap.size W w'))
  have HR := Lib.hid hr
  have HR2 := Lib.hid hr2
  clear hr hr2
  unfold lineV at *
  generalize loP f = F at *
  generalize hiP l.length t = T at *
  have HFst : Hid (F < T → firstP F T = F) := Lib.hid (fun h => by unfold firstP; rw [if_pos h])
  generalize firstP F T = fst at *
  have HK := Lib.hid (KL.start w #[.slice A0 l.length c0, .int .i64 size] #[.slice none 0 0, .int .i64 0])
  go_enter Try.func21, Try.ntmps21
  go_wp2_with fail
  have HR1 := Lib.hid (HR.out.next HK.out.2.2)
  have hz1 : ((w.alloc (.cells #[.slice A0 l.length c0, .int .i64 size] 24)).alloc (.cells #[.slice none 0 0, .int .i64 0] 24)).heap.size = w.heap.size + 2 := by simp
  have HZ1 := Lib.hid hz1
  clear hz1
  generalize (w.alloc (.cells #[.slice A0 l.length c0, .int .i64 size] 24)).alloc (.cells #[.slice none 0 0, .int .i64 0] 24) = W1 at *
  have HC := Lib.hid (fun w' (h : Only [] W1 w') => KL.two (HK.out.next h.below0))
  refine wp_region_mix_lit (by kernel_rfl) [(2, .letter (SlP l.length) (SlF W1.heap.size l)), (6, .alloc 7 24 #[.slice none 0 0, .int .i64 0] (fun β => #[β 2, .int .i64 size])), (7, .init 6)] (by kernel_rfl) (by kernel_rfl) (by kernel_rfl) (by rfl) (by simp [apartK] <;> omega) (by simp [startK]) (by repeat (first | (refine List.forall_mem_cons.2 ⟨?_, ?_⟩; (first | exact trivial | exact slF_stab _ _ _ (by simp [boxes, Kind.boxed]))) | (intro x hx; cases hx; done))) (⟨fun i => if i = 6 then .pointer (some ⟨W1.heap.size, 0, none⟩) else .slice none l.length l.length, by repeat (first | (refine List.forall_mem_cons.2 ⟨?_, ?_⟩; (first | exact trivial | exact ⟨none, _, rfl, Nat.le_refl _⟩ | exact ⟨_, rfl, Nat.le_refl _⟩)) | (intro x hx; cases hx; done))⟩) (fun β hβ => ?_)
  obtain ⟨A, c, e1, _⟩ := (hβ 2 : SlP l.length (β 2))
  repeat (
    refine lex_val (v := ?_) rfl rfl (fun w' hf => ?_) ?_
    rotate_left
    · obtain ⟨c0', c1'⟩ := HC.out w' hf.only; go_simp
      try rfl
    try simp only [Act.put, List.setIfInBounds_toArray, List.set_cons_zero, List.set_cons_succ])
  refine lex_letter (f := 18) (args := ?_) rfl rfl (fun w' hf => ?_) (fun w' hf => ?_) ?_
  rotate_left
  · go_simp
    try rfl
  · exact sl_own hf.only.size rfl (HCells.out c0 w' (HR1.out.next hf.only.below0))
  try simp only [Act.put, List.setIfInBounds_toArray, List.set_cons_zero, List.set_cons_succ]
  repeat (
    refine lex_val (v := ?_) rfl rfl (fun w' hf => ?_) ?_
    rotate_left
    · obtain ⟨c0', c1'⟩ := HC.out w' hf.only; go_simp
      try rfl
    try simp only [Act.put, List.setIfInBounds_toArray, List.set_cons_zero, List.set_cons_succ])
  refine lex_alloc rfl rfl (fun w' => ?_) ?_
  · go_simp
  try simp only [Act.put, List.setIfInBounds_toArray, List.set_cons_zero, List.set_cons_succ]
  refine lex_init rfl rfl rfl (fun b w' hb hf hB => ⟨_, ?_, (repl2 hB (.slice A l.length c) (.int .i64 size)).to (by show _ = #[β 2, _]; rw [e1]; rfl)⟩) ?_
  · have gB := cells2 hB
    go_simp
  try simp only [Act.put]
  refine lex_nil fun W2 he => ?_
  obtain ⟨B, hB, hBge, hblk⟩ := he.facts 6
  replace hblk : Blk W2 B 24 #[β 2, .int .i64 size] := hblk
  have hO2 : SlF W1.heap.size l (β 2) W2 := (he.facts 2).2
  rw [e1] at hblk hO2
  have hM : Mid w #[.slice A0 l.length c0, .int .i64 size] #[.slice none 0 0, .int .i64 0] B A l.length c size l W2 := ⟨HK.out.next he.only.below0, hblk, by have := hO2.own rfl; rw [HZ1.out] at this; exact this, by rw [HZ1.out] at hBge; exact hBge⟩
  have HM2 := Lib.hid hM
  rw [hB]
  clear he hβ hblk hO2 e1 HK HC HR1 hM hB hBge HZ1
  generalize β (0 + 1 + 1) = v2
  obtain ⟨c0', c1'⟩ := KL.two HM2.out.kl
  go_wp2_with fail
  refine (HCt.out _).mono ?_
  rintro e W3 ⟨rfl, hb3⟩
  have HM3 := Lib.hid (HM2.out.next hb3)
  clear hb3 HM2 c0' c1'
  have HLn := Lib.hid (fun k => updP_len (layC row F T) l k)
  go_wp2_with fail
  go_loopw [12] (fun i wr => ∃ k : Nat, k ≤ l.length ∧ i = .int .i64 k ∧ Mid w #[.slice A0 l.length c0, .int .i64 size] #[.slice none 0 0, .int .i64 0] B A l.length c size (updP (layC row F T) l k) wr) (fun i _ => l.length - (intOf i).toNat)
  case atStart => exact ⟨0, by omega, rfl, by rw [updP_zero]; exact HM3.out⟩
  case round =>
    obtain ⟨k, hk, rfl, hmid⟩ := hrel
    have HM := Lib.hid hmid
    clear hmid
    obtain ⟨c0', c1'⟩ := KL.two HM.out.kl
    by_cases hlt : k < l.length
    · by_cases hin : F ≤ k ∧ k < T
      · have HI := Lib.hid (fun W => HIn.out k W)
        rw [decide_eq_true hin] at HI
        obtain rfl : fst = F := HFst.out (by omega)
        obtain ⟨d, hd⟩ : ∃ d, d = k - fst := ⟨_, rfl⟩
        have hw0 : IntKind.i64.wrap ((k : Int) - (fst : Int)) = (d : Int) := by rw [IntWalk.i64_in _ (by omega)]; omega
        have HW := Lib.hid hw0
        have HD := Lib.hid hd
        clear hw0
        by_cases hdr : d < row.length
        · have hd1 : decide (d < row.length) = true := by simpa using hdr
          have hlen := HLn.out k
          have hlen2 := Lib.hid hlen.symm
          have hk' : k < (updP (layC row fst T) l k).length := by rw [hlen]; exact hlt
          obtain ⟨g, cap, hv, hg, _⟩ := World.ownsRow.form (show wr.ownsRow _ _ _ _ _ _ from HM.out.own) (by omega)
          simp only [Value.slice.injEq] at hv
          obtain ⟨rfl, -, rfl⟩ := hv
          obtain ⟨cur, hcur⟩ := own_blk HM.out.own
          have hgB := ne_block hcur HM.out.box
          have HSt := Lib.hid (updP_set (layC row fst T) l k hlt row[d] (by unfold layC; rw [if_pos ⟨hin.1, hin.2, by omega⟩, List.getD_eq_getElem?_getD, List.getElem?_eq_getElem (by omega)]; simp only [Option.getD_some]; congr 1; omega))
          clear hlen hd
          obtain ⟨ad, rfl, _⟩ := HR2.out.2 (by omega)
          go_wp2_with fail
          refine (HI.out _).mono ?_
          rintro e w1 ⟨rfl, hb1⟩
          have HM1 := Lib.hid (HM.out.next hb1)
          have HCur1 := Lib.hid (hcur.next hb1)
          clear hb1 c0' c1' hcur HI
          have HC := Lib.hid (fun w' (h : Only [g] w1 w') => And.intro (cells2 (h.blk HM1.out.box (by simp; exact fun e => hgB e.symm))) (RCells.cell3 (HR2.out.next (HM1.out.kl.2.2.trans (h.below HM1.out.kl.2.2.size (by simp; omega)))) hdr))
          generalize updP (layC row fst T) l k = L at *
          generalize row[d] = x at *
          have hw := HW.out
          go_wp2_with fail
          refine wp_region_mix_lit (by kernel_rfl) [(10, .store g 38 cur (fun _ => set3 cur (k * 3) x))] (by kernel_rfl) (by kernel_rfl) (by kernel_rfl) (by rfl) (by simp [apartK] <;> omega) (by simp [startK]; exact HCur1.out) (by simp [stabK]) (⟨fun _ => undef, by simp [okK]⟩) (fun β hβ => ?_)
          repeat (
            refine lex_val (v := ?_) rfl rfl (fun w' hf => ?_) ?_
            rotate_left
            · obtain ⟨⟨b0, b1, _, _⟩, s0, s1, s2⟩ := HC.out w' hf.only; go_simp
              try rfl
            try simp only [Act.put, List.setIfInBounds_toArray, List.set_cons_zero, List.set_cons_succ])
          refine lex_store rfl rfl (fun w' hf hB => ⟨_, ?_, repl3 hB (k * 3) x⟩) ?_
          · obtain ⟨d0, d1, d2, f0, f1, f2⟩ := cur3 HM1.out.own hlen2.out hk' HCur1.out hB
            go_simp
          try simp only [Act.put]
          refine lex_nil fun w2 he => ?_
          clear hw
          have hblk : Blk w2 g 38 (set3 cur (k * 3) x) := he.facts 10
          have hM2 := HM1.out.set he.only hg hgB (own_set HM1.out.own hlen2.out hk' x HCur1.out hblk)
          rw [HSt.out] at hM2
          have HM2 := Lib.hid hM2
          clear he hβ hblk HC HM1 HCur1 hM2
          go_wp2_with fail
          go_roundw
          case rel => exact ⟨k + 1, by omega, by go_num, HM2.out⟩
          case measure => simp [intOf]; omega
        · have hd1 : decide (d < row.length) = false := by simpa using hdr
          have HS := Lib.hid (updP_skip (layC row fst T) l k hlt (by unfold layC; rw [if_neg (by omega)]))
          clear hd hin hdr
          go_wp2_with fail
          refine (HI.out _).mono ?_
          rintro e w1 ⟨rfl, hb1⟩
          have HM1 := Lib.hid (HM.out.next hb1)
          clear hb1 c0' c1'
          have hw := HW.out
          go_wp2_with fail
          clear hw
          go_roundw
          case rel => exact ⟨k + 1, by omega, by go_num, by rw [HS.out]; exact HM1.out⟩
          case measure => simp [intOf]; omega
      · have HI := Lib.hid (fun W => HIn.out k W)
        rw [decide_eq_false hin] at HI
        have HS := Lib.hid (updP_skip (layC row F T) l k hlt (by unfold layC; rw [if_neg (by omega)]))
        clear hin
        go_wp2_with fail
        refine (HI.out _).mono ?_
        rintro e w1 ⟨rfl, hb1⟩
        have HM1 := Lib.hid (HM.out.next hb1)
        clear hb1 c0' c1'
        go_wp2_with fail
        go_roundw
        case rel => exact ⟨k + 1, by omega, by go_num, by rw [HS.out]; exact HM1.out⟩
        case measure => simp [intOf]; omega
    · obtain rfl : k = l.length := by omega
      have b0 : wr.cell? ⟨B, 0, none⟩ = some (.slice A l.length c) := HM.out.box.cell 0
      have b1 : wr.cell? ⟨B, 1, none⟩ = some (.int .i64 size) := HM.out.box.cell 1
      obtain ⟨c2, c3, f2, f3⟩ := KL.res HM.out.kl
      obtain ⟨e0, e1, h3, h4⟩ := HM.out.fin
      have HF3 := Lib.hid h3; have HF4 := Lib.hid h4
      clear h3 h4
      go_wp2_with fail
      exact bodyPost_ret (v := .agg #[.slice A l.length c, .int .i64 size]) (by simp [results, Try.results21, go_sem, e0, e1]) rfl ⟨A, c, rfl, HF3.out, HF4.out⟩

/-- A struct more, at the end of a slice of the call's own; and whose block it is then. -/
theorem wpList_pushA {P : Program} {ops : Array Oper} {rest : List Oper} {o : Oper} {a : Act} {Q : Exit → Act → World → Prop} {W : World} (hgd : o.guard = none) (s x : Operand) (t : TypeId)
    (ho : o.op = .call { callee := .builtin .append, args := #[s, x], argTypes := #[t, t] })
    (base : Nat) (e : TypeId) (z : Value) (size bytes : Nat) (ht : P.underlying t = some (.slice e)) (hinfo : (P.info? e).map (fun i => (i.zero, i.size, i.bytes)) = some (some z, size, bytes)) (hzs : z.cells.size = size) (hsz : 0 < size)
    (v : Value) (n : Nat) (xs : List Value) (hs : a.eval s = v) (hown : W.ownsRow base e size v n xs)
    (us : List Value) (hul : us.length = size) (hu : ∀ u ∈ us, u.oneCell' = true) (cs : Array Value) (hcs : cs = us.toArray) (T : TypeId) (g c : Nat) (hg : g = W.heap.size) (hx : a.eval x = .slice (some ⟨g, 0, none⟩) 1 c)
    (h63 : n + 1 ≤ maxLen) (hbytes : (n + 1) * bytes ≤ 140737488355328) (hbase : base ≤ W.heap.size)
    (h : ∀ v' w', w'.ownsRow base e size v' (n + 1) (xs ++ us) → W.grownBy w' v.ownBlock → Below base W w' → (∀ G, G < W.heap.size → some G ≠ v.ownBlock → some G ≠ v'.ownBlock) → wpList P ops Q rest (a.put o.dst v') w') : wpList P ops Q (o :: rest) a (W.alloc (.cells cs T)) := by
  obtain ⟨i, hi, hz, hsize, hby⟩ := info_parts hinfo
  subst hcs
  have hB : Below W.heap.size W (W.alloc (.cells us.toArray T)) := (Below.refl _ _).alloc (Nat.le_refl _) _
  refine wpList_append_own_at _ hgd s x t ho base e i z size bytes ht hi hz hsize hby hzs hsz v n xs hs (hown.alloc _) ⟨g, 0, none⟩ 1 c us hx (by omega) (fun j u' hj => ?_) hu h63 hbytes (Nat.le_trans hbase hB.size) (fun v' w' h2 h3 _ h5 => h v' w' h2 (grown_own hB h3) (below_own hown hbase hB h3) (fun G hG hne => ?_))
  · subst hg
    have hadd : (⟨W.heap.size, 0, none⟩ : Addr).add j = ⟨W.heap.size, j, none⟩ := by unfold Addr.add; split <;> simp_all
    rw [hadd, (Blk.new W T _).cell j]
    simpa using hj
  · rcases h5 with h5 | h5
    · rw [h5]; exact hne
    · rw [h5]
      intro e1
      have e2 := Option.some.inj e1
      have := hB.size
      omega
theorem cell_one (g r : Int) (b : Bool) : ∀ u ∈ [Value.int .i32 g, .int .u8 r, .bool b], u.oneCell' = true := by
  intro u hu
  simp at hu
  rcases hu with rfl | rfl | rfl <;> rfl
theorem ocells_own {W : World} {b : Nat} {v : Value} {l : List Cl} (h : OCells W b v l) : W.ownsRow b 38 3 v l.length (l.flatMap Cl.cells) := h
theorem KO.grown {w W w' : World} {x : Array Value} {b : Nat} {v : Value} {l : List Cl} (h : KO w x W) (ho : OCells W b v l) (hg : W.grownBy w' v.ownBlock) (hb : w.heap.size + 1 ≤ b) : KO w x w' :=
  ⟨h.1.grown hg (fun e => by have := own_far ho _ e.symm; omega), h.2.grown hg h.2.size (fun k hk => by have := own_far ho k hk; omega)⟩

set_option maxRecDepth 100000 in
set_option maxHeartbeats 4000000 in
theorem refCut_any (A0 : Option Addr) (c0 : Nat) (l : List Cl) (size f t : Int) (hl : l.length ≤ 100000) (w : World) (hr : RCells w A0 l) :
    Calls Try.prog 23 #[lineV A0 l.length c0 size, .int .i64 f, .int .i64 t] w fun e w' => ∃ v, e = .returned v ∧ OCells w' (w.heap.size + 1) v (cutP l (loP f) (hiP l.length t)) ∧ Below w.heap.size w w' := by
  have hT : hiP l.length t ≤ l.length := by unfold hiP; omega
  have HIn := Lib.hid (fun (i : Nat) W => (by have := in_any A0 l.length c0 size i f t W; rw [inP_nat] at this; exact this : Calls Try.prog 38 #[lineV A0 l.length c0 size, .int .i64 (i : Int), .int .i64 f, .int .i64 t] W fun e w' => e = .returned (.bool (decide (loP f ≤ i ∧ i < hiP l.length t))) ∧ Below W.heap.size W w'))
  have HR := Lib.hid hr
  clear hr
  unfold lineV at *
  generalize loP f = F at *
  generalize hiP l.length t = T at *
  have HK := Lib.hid (KO.start w #[.slice A0 l.length c0, .int .i64 size])
  obtain ⟨c0', c1'⟩ := KO.two HK.out
  go_enter Try.func23, Try.ntmps23
  go_wp2_with fail
  clear c0' c1'
  go_loopw [7, 8] (fun v i wr => ∃ k : Nat, k ≤ l.length ∧ i = .int .i64 k ∧ OCells wr (w.heap.size + 1) v (cutP l F (min k T)) ∧ KO w #[.slice A0 l.length c0, .int .i64 size] wr) (fun _ i _ => l.length - (intOf i).toNat)
  case atStart => exact ⟨0, by omega, rfl, by rw [cutP_out _ _ _ (by omega)]; exact ⟨rfl, .inl ⟨rfl, rfl⟩⟩, HK.out⟩
  case round =>
    obtain ⟨k, hk, rfl, hown, hko⟩ := hrel
    have HOwn := Lib.hid hown; have HKO := Lib.hid hko
    clear hown hko
    obtain ⟨c0', c1'⟩ := KO.two HKO.out
    by_cases hlt : k < l.length
    · by_cases hin : F ≤ k ∧ k < T
      · have HI := Lib.hid (fun W => HIn.out k W)
        rw [decide_eq_true hin] at HI
        have hS := cutP_step l F k hlt hin.1
        have e1 : min k T = k := by omega
        have e2 : min (k + 1) T = k + 1 := by omega
        rw [e1] at HOwn
        have HE := Lib.hid (e2 ▸ hS : cutP l F (min (k + 1) T) = cutP l F k ++ [l[k]])
        have hlen := cutP_len l F k (by omega)
        have hle : (cutP l F k).length ≤ 100000 := by omega
        clear e1 e2 hS hlen
        obtain ⟨ad, rfl, _⟩ := HR.out.2 (by omega)
        generalize cutP l F k = L at *
        go_wp2_with fail
        refine (HI.out _).mono ?_
        rintro e w1 ⟨rfl, hb1⟩
        have HK1 := Lib.hid (KO.next HKO.out hb1)
        have HO1 := Lib.hid (HOwn.out.next hb1)
        clear hb1 c0' c1'
        obtain ⟨c0', c1'⟩ := KO.two HK1.out
        obtain ⟨s0, s1, s2⟩ := RCells.cell3 (HR.out.next HK1.out.2) hlt
        generalize l[k] = x at *
        obtain ⟨xg, xr, xk⟩ := x
        simp only at s0 s1 s2
        have hz1 := HK1.out.1.lt
        go_wp2_with (at_builtin; refine wpList_pushA rfl _ _ _ rfl (w.heap.size + 1) 38 _ 3 8 Try.underlying22 info_cell rfl (by decide) _ _ _ rfl (ocells_own HO1.out) [.int .i32 xg, .int .u8 xr, .bool xk] rfl (cell_one xg xr xk) _ rfl _ _ _ (by simp) rfl (by unfold maxLen; omega) (by omega) (by omega) ?_; intro v3 w3 hown3 hg3 hb3 hne3)
        go_roundw
        case rel => exact ⟨k + 1, by omega, by go_num, by rw [HE.out]; unfold OCells; rw [List.length_append, List.flatMap_append]; exact hown3, HK1.out.grown HO1.out hg3 (Nat.le_refl _)⟩
        case measure => simp [intOf]; omega
      · have HI := Lib.hid (fun W => HIn.out k W)
        rw [decide_eq_false hin] at HI
        have HE : Hid (cutP l F (min (k + 1) T) = cutP l F (min k T)) := Lib.hid (by
          by_cases h : T ≤ k
          · rw [show min (k + 1) T = min k T from by omega]
          · rw [cutP_out _ _ _ (by omega), cutP_out _ _ _ (by omega)])
        clear hin
        go_wp2_with fail
        refine (HI.out _).mono ?_
        rintro e w1 ⟨rfl, hb1⟩
        have HK1 := Lib.hid (KO.next HKO.out hb1)
        have HO1 := Lib.hid (HOwn.out.next hb1)
        clear hb1 c0' c1'
        go_wp2_with fail
        go_roundw
        case rel => exact ⟨k + 1, by omega, by go_num, by rw [HE.out]; exact HO1.out, HK1.out⟩
        case measure => simp [intOf]; omega
    · obtain rfl : k = l.length := by omega
      rw [show min l.length T = T from by omega] at HOwn
      go_wp2_with fail
      go_ret
      exact ⟨_, rfl, HOwn.out, HKO.out.2⟩
end Go.Proofs.Ytngklakdbagjpaa

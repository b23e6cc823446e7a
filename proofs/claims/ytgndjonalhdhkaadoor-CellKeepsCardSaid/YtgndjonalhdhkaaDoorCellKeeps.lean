/-
  CellKeeps holds, whatever the input: the card of the statement, with the table of parts tied to the program's text.
-/
import Derived.Test.YtgndjonalhdhkaaDoorCards
import Derived.Test.YtgndjonalhdhkaaDoorTie
import Derived.Test.YtgndjonalhdhkaaDoorFrame
import Derived.Test.YtgndjonalhdhkaaDoorFrameB
import Derived.Test.YtgndjonalhdhkaaDoorFrameC
import Derived.Test.YtgndjonalhdhkaaDoorKeepC
import Derived.Test.YtgndjonalhdhkaaDoorPackH
import Derived.Test.YtgndjonalhdhkaaDoorCellE
import Derived.Test.YtgndjonalhdhkaaDoorCellF
namespace Go.Proofs.YtgndjonalhdhkaaDoor.cellKeeps
open Go.ChangeShapes Go.WideShapes Go.ChangeAt Go.RowKit
open Go.ChangeMaps (open_string)

theorem ocells_mono {w : World} {b b' : Nat} {v : Value} {l : List Cl} (h : OCells w b v l) (hb : b' ≤ b) : OCells w b' v l := by
  refine ⟨h.1, ?_⟩
  rcases h.2 with h | ⟨g, cap, cur, hv, hg, r⟩
  · exact .inl h
  · exact .inr ⟨g, cap, cur, hv, Nat.le_trans hb hg, r⟩
theorem OBs.form {w : World} {b : Nat} {v : Value} {l : List Int} (h : OBs w b v l) : ∃ A c, v = .slice A l.length c := by
  rcases h.2 with ⟨rfl, hn⟩ | ⟨g, cap, _, rfl, _⟩
  · exact ⟨none, 0, by rw [hn]⟩
  · exact ⟨_, _, rfl⟩
theorem OBs.cap {w : World} {b c : Nat} {A : Option Addr} {l : List Int} (h : OBs w b (.slice A l.length c) l) : l.length ≤ c := by
  rcases h.2 with ⟨hv, hn⟩ | ⟨g, cap, _, hv, _, _, hle, _⟩
  · omega
  · simp only [Value.slice.injEq] at hv
    omega
theorem OBs.reads {w : World} {b c : Nat} {A : Option Addr} {l : List Int} (h : OBs w b (.slice A l.length c) l) : RBs w A l := Reads.of_own h
theorem encL_ok (L : List Cl) (h : OkCells L) : OkBs (encL (runsL L)) := by
  intro b hb
  obtain ⟨x, hx, hb⟩ := List.mem_flatMap.1 hb
  obtain ⟨⟨⟨g0, g1⟩, r0, r1⟩, n0, n1⟩ := (runsL_ok L h).1 x hx
  obtain ⟨⟨g, r, k⟩, n⟩ := x
  simp only [run7, List.mem_cons, List.not_mem_nil, or_false] at hb g0 g1 r0 r1 n0 n1
  rcases hb with rfl | rfl | rfl | rfl | rfl | rfl | rfl
  · omega
  · omega
  · omega
  · omega
  · omega
  · omega
  · cases k <;> simp
/-- Three lists, one made behind the other, and what holds them. -/
theorem LS.three {W : World} {b gl B1 B2 : Nat} {u v1 v2 : Value} {S L1 L2 : List Cl} (hu : OCells W b u S) (hug : ∀ k, u.ownBlock = some k → k < B1) (h1 : OCells W B1 v1 L1) (h1l : ∀ k, v1.ownBlock = some k → k < B2) (h2 : OCells W B2 v2 L2) (hb : b ≤ B1) (hB : B1 ≤ B2)
    (hgl : gl = W.heap.size) : LS (W.alloc (.cells #[u, v1, v2] 22)) b (some ⟨gl, 0, none⟩) [u, v1, v2] [S, L1, L2] := by
  subst hgl
  have hal := (Below.refl W.heap.size W).alloc (Nat.le_refl _) (.cells #[u, v1, v2] 22)
  have o1 : OCells W b v1 L1 := ocells_mono h1 hb
  have o2 : OCells W b v2 L2 := ocells_mono h2 (Nat.le_trans hb hB)
  have g1 : ∀ k, v1.ownBlock = some k → B1 ≤ k := fun k hk => (World.ownsRow.lt (show W.ownsRow B1 _ 3 v1 L1.length _ from h1) k hk).1
  have g2 : ∀ k, v2.ownBlock = some k → B2 ≤ k := fun k hk => (World.ownsRow.lt (show W.ownsRow B2 _ 3 v2 L2.length _ from h2) k hk).1
  have lu : ∀ k, u.ownBlock = some k → k < W.heap.size := fun k hk => (World.ownsRow.lt (show W.ownsRow b _ 3 u S.length _ from hu) k hk).2
  have l1 : ∀ k, v1.ownBlock = some k → k < W.heap.size := fun k hk => (World.ownsRow.lt (show W.ownsRow B1 _ 3 v1 L1.length _ from h1) k hk).2
  have l2 : ∀ k, v2.ownBlock = some k → k < W.heap.size := fun k hk => (World.ownsRow.lt (show W.ownsRow B2 _ 3 v2 L2.length _ from h2) k hk).2
  refine ⟨rfl, Reads.of_own (c := 3) (World.ownsRow_lit (e := 22) (size := 1) W #[u, v1, v2] 3 (Nat.le_refl _) (by unfold maxLen; omega) rfl), fun i v L hv hL => ?_, fun i j v x a hij hv hx ha hb' => ?_, fun ad i v e hv ho => ?_⟩
  · match i with
    | 0 => obtain rfl := Option.some.inj hv; obtain rfl := Option.some.inj hL; exact hu.next hal
    | 1 => obtain rfl := Option.some.inj hv; obtain rfl := Option.some.inj hL; exact o1.next hal
    | 2 => obtain rfl := Option.some.inj hv; obtain rfl := Option.some.inj hL; exact o2.next hal
    | n + 3 => simp at hv
  · match i, j with
    | 0, 0 => exact hij rfl
    | 1, 1 => exact hij rfl
    | 2, 2 => exact hij rfl
    | 0, 1 => obtain rfl := Option.some.inj hv; obtain rfl := Option.some.inj hx; have := hug a ha; have := g1 a hb'; omega
    | 1, 0 => obtain rfl := Option.some.inj hv; obtain rfl := Option.some.inj hx; have := hug a hb'; have := g1 a ha; omega
    | 0, 2 => obtain rfl := Option.some.inj hv; obtain rfl := Option.some.inj hx; have := hug a ha; have := g2 a hb'; omega
    | 2, 0 => obtain rfl := Option.some.inj hv; obtain rfl := Option.some.inj hx; have := hug a hb'; have := g2 a ha; omega
    | 1, 2 => obtain rfl := Option.some.inj hv; obtain rfl := Option.some.inj hx; have := h1l a ha; have := g2 a hb'; omega
    | 2, 1 => obtain rfl := Option.some.inj hv; obtain rfl := Option.some.inj hx; have := h1l a hb'; have := g2 a ha; omega
    | n + 3, _ => simp at hv
    | 0, n + 3 => simp at hx
    | 1, n + 3 => simp at hx
    | 2, n + 3 => simp at hx
  · obtain rfl := Option.some.inj e
    match i with
    | 0 => obtain rfl := Option.some.inj hv; have := lu _ ho; simp at this
    | 1 => obtain rfl := Option.some.inj hv; have := l1 _ ho; simp at this
    | 2 => obtain rfl := Option.some.inj hv; have := l2 _ ho; simp at this
    | n + 3 => simp at hv
theorem ocells_rowK {w : World} {g : Nat} {l : List Cl} (hl : l.length ≤ 100000) (h : Row w g l) : OCells w g (.slice (some ⟨g, 0, none⟩) l.length l.length) l := by
  refine ⟨flat_len l, .inr ⟨g, l.length, (l.flatMap Cl.cells).toArray, rfl, Nat.le_refl _, h, Nat.le_refl _, by unfold maxLen; omega, (by rw [List.size_toArray]; exact flat_len l), (by rw [List.take_of_length_le (Nat.le_of_eq (flat_len l))])⟩⟩
theorem set_own {w : World} {b n k : Nat} {v : Value} {zs : List Int} {y : Int} (h : w.ownsRow b 5 1 v n ((zs.map (Value.int .u8)).set k (.int .u8 y))) : w.ownsRow b 5 1 v n ((zs.set k y).map (Value.int .u8)) := by
  rw [List.map_set]; exact h
theorem spare_take (l : List Cl) : (spareL l).take l.length = l := by unfold spareL; simp
theorem rrows_new (W : World) (T : TypeId) (rows : List Rw) (cs : Array Value) (hcs : cs.toList = rows.map Rw.val) (hT : T = 22) (hn : rows.length ≤ 10) (h : ∀ x ∈ rows, RCells W x.A x.l) : RRows (W.alloc (.cells cs T)) (some ⟨W.heap.size, 0, none⟩) rows := by
  subst hT
  have hz : cs.size = rows.length := by rw [← Array.length_toList, hcs, List.length_map]
  have h0 := World.ownsRow_lit (e := 22) (size := 1) W cs rows.length (Nat.le_refl _) (by unfold maxLen; omega) (by rw [hz]; omega)
  refine ⟨?_, fun x hx => (h x hx).next ((Below.refl _ _).alloc (Nat.le_refl _) _)⟩
  rw [hcs] at h0
  exact Reads.of_own h0
set_option maxRecDepth 100000 in
set_option maxHeartbeats 16000000 in
theorem walk (A : Option Addr) (c : Nat) (l : List Cl) (hl : l.length ≤ maxLen) (hc : l.length ≤ c) (ok : OkCells l) (w : World) (ht : Tab w) (hr : RCells w A l) :
    Calls Tryd.prog 4 #[.slice A l.length c] w fun e w' => e = .returned (.bool true) ∧ Below w.heap.size w w' := by
  have HCut := Lib.hid (fun W => cut_any A c l hl hc 500 (by omega) W)
  have hok : OkCells (l.take 500) := fun y hy => ok y (List.mem_of_mem_take hy)
  have hm : (l.take 500).length ≤ 500 := by rw [List.length_take]; omega
  have HR := Lib.hid (hr.take 500); have HT := Lib.hid ht
  clear hr ok ht hl hc
  generalize l.length = n0 at *
  generalize l.take 500 = L at *
  clear l
  have HSp := Lib.hid (fun W h => spare_any A c L (by omega) W h)
  have HKe := Lib.hid (fun P d W h1 h2 => kept_any P A d c L (by omega) W h1 h2)
  have HSa := Lib.hid (fun P d W h1 h2 => (by
    have := sameCells_any P A d c L L (by unfold maxLen; omega) (by unfold maxLen; omega) W h1 h2
    rw [decide_eq_true rfl] at this
    exact this : Calls Tryd.prog 10 #[.slice P L.length d, .slice A L.length c] W fun e w' => e = .returned (.bool true) ∧ Below W.heap.size W w'))
  have HEn := Lib.hid (fun P d W h => encode_any P d L (by omega) hok W h)
  have HSu := Lib.hid (fun g d W h1 h2 => sum_any (some ⟨g, 0, none⟩) 2 [⟨some ⟨d, 0, none⟩, L.length + 9, L⟩, ⟨some ⟨d, 0, none⟩, L.length + 9, L⟩] (by simp) (fun x hx => by simp at hx; subst hx; exact ⟨hok, by show L.length ≤ _; omega⟩) W h1 h2)
  have HNe := Lib.hid (fun g d W h1 h2 => negated_any (some ⟨g, 0, none⟩) 1 [⟨some ⟨d, 0, none⟩, L.length + 9, L⟩] (by simp) (fun x hx => by simp at hx; subst hx; exact ⟨hok, by show L.length ≤ _; omega⟩) W h1 h2)
  have hel : (encL (runsL L)).length ≤ 7 * L.length := by rw [encL_len]; have := (runsL_ok L hok).2.2; omega
  have HEl := Lib.hid hel
  obtain ⟨rs, hrs, hfl⟩ := decR_row z0 rfl L hok
  have HDe : Hid (∀ P d W, (encL (runsL L)).length ≤ d → RBs W P (encL (runsL L)) → Calls Tryd.prog 9 #[.slice P (encL (runsL L)).length d] W fun e w' => ∃ P2 d2, e = .returned (.tuple #[.slice P2 L.length d2, .int .i64 0]) ∧ OCells w' W.heap.size (.slice P2 L.length d2) L ∧ Below W.heap.size W w') := Lib.hid (fun P d W hd h => by
    refine (decode_any P d (encL (runsL L)) (by omega) hd (encL_ok L hok) W h).mono fun e w' ⟨hD, hb⟩ => ?_
    rcases hD with ⟨h0, _⟩ | ⟨rs', v, h0, he, ho⟩
    · rw [hrs] at h0; cases h0
    · rw [hrs] at h0
      obtain rfl := Option.some.inj h0
      rw [hfl] at ho
      obtain ⟨P2, d2, rfl, _⟩ := OCells.form ho
      exact ⟨P2, d2, he, ho, hb⟩)
  have HSl := Lib.hid (spareL_len L); have HM := Lib.hid hm; have HOk := Lib.hid hok
  clear hrs hfl hel hok
  generalize encL (runsL L) = bs at *
  go_enter Tryd.func4, Tryd.ntmps4
  go_wp2_with fail
  refine (awake2_any _ HT.out).mono ?_
  rintro e w1 ⟨rfl, hb1⟩
  have HB1 := Lib.hid hb1
  clear hb1
  go_wp2_with fail
  refine (HCut.out _).mono ?_
  rintro e w2 ⟨rfl, hb2⟩
  have HB2 := Lib.hid (HB1.out.trans (hb2.mono HB1.out.size))
  clear hb2 HB1 HCut
  go_wp2_with fail
  refine (HSp.out _ (HR.out.next HB2.out)).mono ?_
  rintro e w3 ⟨g, hg, rfl, hrow, hb3⟩
  have HB3 := Lib.hid (HB2.out.trans (hb3.mono HB2.out.size)); have HRow3 := Lib.hid hrow; have HG := Lib.hid hg
  have hri : RCells w3 (some ⟨g, 0, none⟩) L := by have := (Row.reads hrow).take L.length; rw [spare_take] at this; exact this
  have HRi := Lib.hid hri
  clear hb3 hrow hg hri HSp
  go_wp2_with fail
  refine (HEn.out _ _ _ HRi.out).mono ?_
  rintro e w4 ⟨vb, rfl, hob, hb4⟩
  obtain ⟨Ab, cb, rfl⟩ := OBs.form hob
  have HOb4 := Lib.hid hob; have HB34 := Lib.hid hb4
  clear hob hb4 HEn
  have hx : ∀ x : Rw, x ∈ [(⟨some ⟨g, 0, none⟩, L.length + 9, L⟩ : Rw), ⟨some ⟨g, 0, none⟩, L.length + 9, L⟩] → RCells w4 x.A x.l := fun x hx => by simp at hx; subst hx; exact HRi.out.next HB34.out
  have HRr := Lib.hid (rrows_new w4 _ [⟨some ⟨g, 0, none⟩, L.length + 9, L⟩, ⟨some ⟨g, 0, none⟩, L.length + 9, L⟩] #[.slice (some ⟨g, 0, none⟩) L.length (L.length + 9), .slice (some ⟨g, 0, none⟩) L.length (L.length + 9)] rfl rfl (by simp) hx)
  have HA4 := Lib.hid ((Below.refl w4.heap.size w4).alloc (Nat.le_refl _) (.cells #[.slice (some ⟨g, 0, none⟩) L.length (L.length + 9), .slice (some ⟨g, 0, none⟩) L.length (L.length + 9)] 22))
  have HB4 := Lib.hid (HB3.out.trans (HB34.out.mono HB3.out.size))
  clear hx
  go_wp2_with fail
  refine (HSu.out _ _ _ (HT.out.next (HB4.out.trans (HA4.out.mono HB4.out.size))) HRr.out).mono ?_
  rintro e w5 ⟨rfl, hb5⟩
  have HA5 := Lib.hid (HA4.out.trans (hb5.mono HA4.out.size))
  clear hb5 HA4 HRr HSu
  have hx : ∀ x : Rw, x ∈ [(⟨some ⟨g, 0, none⟩, L.length + 9, L⟩ : Rw)] → RCells w5 x.A x.l := fun x hx => by simp at hx; subst hx; exact (HRi.out.next HB34.out).next HA5.out
  have HRr := Lib.hid (rrows_new w5 _ [⟨some ⟨g, 0, none⟩, L.length + 9, L⟩] #[.slice (some ⟨g, 0, none⟩) L.length (L.length + 9)] rfl rfl (by simp) hx)
  have HA6 := Lib.hid (HA5.out.trans (((Below.refl w5.heap.size w5).alloc (Nat.le_refl _) (.cells #[.slice (some ⟨g, 0, none⟩) L.length (L.length + 9)] 22)).mono HA5.out.size))
  clear hx
  go_wp2_with fail
  refine (HNe.out _ _ _ (HT.out.next (HB4.out.trans (HA6.out.mono HB4.out.size))) HRr.out).mono ?_
  rintro e w6 ⟨rfl, hb6⟩
  have HA7 := Lib.hid (HA6.out.trans (hb6.mono HA6.out.size))
  clear hb6 HA6 HA5 HRr HNe
  have HOb6 := Lib.hid (HOb4.out.next HA7.out)
  have hcb := OBs.cap HOb6.out
  --#1
  go_wp2_with fail
  refine (HDe.out _ _ _ hcb (OBs.reads HOb6.out)).mono ?_
  rintro e w7 ⟨P1, d1, rfl, ho1, hb7⟩
  have HO1 := Lib.hid ho1; have HB7 := Lib.hid hb7
  clear ho1 hb7
  have HOb7 := Lib.hid (HOb6.out.next HB7.out)
  go_wp2_with fail
  refine (HDe.out _ _ _ hcb (OBs.reads HOb7.out)).mono ?_
  rintro e w8 ⟨P2, d2, rfl, ho2, hb8⟩
  have HO2 := Lib.hid ho2; have HB8 := Lib.hid hb8
  have HO18 := Lib.hid (HO1.out.next hb8); have HOb8 := Lib.hid (HOb7.out.next hb8)
  have HW8 := Lib.hid (HA7.out.trans ((HB7.out.trans (hb8.mono HB7.out.size)).mono HA7.out.size))
  clear ho2 hb8 HDe
  have hel := HEl.out
  have hmm := HM.out
  go_wp2_with fail
  --#2
  go_loopw [41] (fun i wr => ∃ (k : Nat) (zs : List Int), k ≤ bs.length ∧ i = .int .i64 k ∧ zs.length = bs.length ∧ wr.ownsRow w3.heap.size 5 1 (.slice Ab bs.length cb) bs.length (zs.map (Value.int .u8)) ∧ w8.grownBy wr (Value.ownBlock (.slice Ab bs.length cb))) (fun i _ => bs.length - (intOf i).toNat)
  case atStart => exact ⟨0, bs, by omega, rfl, rfl, obs_own HOb8.out, World.grownBy.refl _ _⟩
  case round =>
    obtain ⟨k, zs, hk, rfl, hzl, hoz, hgz⟩ := hrel
    have HOz := Lib.hid hoz; have HGz := Lib.hid hgz; have HZl := Lib.hid hzl
    clear hoz hgz hzl
    by_cases hlt : k < bs.length
    · obtain ⟨gb, cap, hvb, hgb, hgl⟩ := World.ownsRow.form HOz.out (by omega)
      simp only [Value.slice.injEq, true_and] at hvb
      obtain ⟨rfl, rfl⟩ := hvb
      have hcl : wr.cell? ⟨gb, k, none⟩ = some (.int .u8 (zs[k]'(by rw [HZl.out]; exact hlt))) := by
        rw [World.ownsRow.cellAt HOz.out _ (by omega)]
        simp [List.getElem?_eq_getElem (show k < zs.length by rw [HZl.out]; exact hlt)]
      have hfz := World.ownsRow.frozenAt HOz.out k
      generalize zs[k]'(by rw [HZl.out]; exact hlt) = z at *
      have hst := fun y : Int => World.ownsRow.stored HOz.out k (.int .u8 y)
      have HSt := Lib.hid hst
      clear hst
      go_wp2_with fail
      go_roundw
      case rel => exact ⟨k + 1, zs.set k _, by omega, by go_num, by rw [List.length_set]; exact HZl.out, set_own (HSt.out _).1, grown_tr HGz.out (HSt.out _).2⟩
      case measure => simp [intOf]; omega
    · obtain rfl : k = bs.length := by omega
      have hbl : Below w.heap.size w8 wr := ((Below.refl _ _).mono (HB4.out.trans (HW8.out.mono HB4.out.size)).size).grown HGz.out (HB4.out.trans (HW8.out.mono HB4.out.size)).size (fun q hq => by
        have := (World.ownsRow.lt HOz.out q hq).1
        have h3 := HB3.out.size
        omega)
      have hb8 := HB4.out.trans (HW8.out.mono HB4.out.size)
      have HB9 := Lib.hid (hb8.trans hbl)
      have HRo := Lib.hid (HR.out.next (hb8.trans hbl))
      have hne : ∀ q, some q = Value.ownBlock (.slice Ab bs.length cb) → w3.heap.size ≤ q ∧ q < w6.heap.size := fun q hq => World.ownsRow.lt (show w6.ownsRow w3.heap.size 5 1 _ bs.length _ from obs_own HOb6.out) q hq.symm
      have hgl : g < w3.heap.size := Row.lt HRow3.out
      have hrow9 : Row wr g (spareL L) := Blk.grown (Row.next (Row.next HRow3.out HB34.out) HW8.out) HGz.out (fun e => by have := (hne g e).1; omega)
      have ho19 : OCells wr w6.heap.size (.slice P1 L.length d1) L := World.ownsRow.kept (row := Value.ownBlock (.slice Ab bs.length cb)) HO18.out HGz.out (by
        rcases hk : Value.ownBlock (.slice P1 L.length d1) with _ | q
        · exact .inl rfl
        · right; intro e
          have h1 := (World.ownsRow.lt (show w8.ownsRow w6.heap.size _ 3 _ L.length _ from HO18.out) q hk).1
          have h2 := (hne q e).2
          omega)
      have h68 : w6.heap.size ≤ w7.heap.size := HB7.out.size
      have ho29 : OCells wr w7.heap.size (.slice P2 L.length d2) L := World.ownsRow.kept (row := Value.ownBlock (.slice Ab bs.length cb)) HO2.out HGz.out (by
        rcases hk : Value.ownBlock (.slice P2 L.length d2) with _ | q
        · exact .inl rfl
        · right; intro e
          have h1 := (World.ownsRow.lt (show w8.ownsRow w7.heap.size _ 3 _ L.length _ from HO2.out) q hk).1
          have h2 := (hne q e).2
          omega)
      have HRow9 := Lib.hid hrow9; have HO19 := Lib.hid ho19; have HO29 := Lib.hid ho29
      have h1l := fun q hq => (World.ownsRow.lt (show w7.ownsRow w6.heap.size _ 3 (.slice P1 L.length d1) L.length _ from HO1.out) q hq).2
      have HL1 := Lib.hid h1l
      have hs36 : w3.heap.size ≤ w6.heap.size := Nat.le_trans HB34.out.size HA7.out.size
      have HSz := Lib.hid (And.intro hgl (And.intro hs36 h68))
      clear hbl hb8 hne hgl hrow9 ho19 ho29 h1l h68 hs36 hcb
      go_wp2_with fail
      refine (HKe.out _ _ _ (Row.reads HRow9.out) HRo.out).mono ?_
      rintro e x1 ⟨rfl, hx1⟩
      have HX1 := Lib.hid hx1
      clear hx1
      go_wp2_with fail
      refine (HSa.out _ _ _ ((OCells.reads HO19.out).next HX1.out) (HRo.out.next HX1.out)).mono ?_
      rintro e x2 ⟨rfl, hx2⟩
      have HX2 := Lib.hid (HX1.out.trans (hx2.mono HX1.out.size))
      clear hx2 HX1
      have hall := ocells_rowK (by rw [HSl.out]; omega) (Row.next HRow9.out HX2.out)
      rw [HSl.out] at hall
      have HLs := Lib.hid (LS.three (b := w2.heap.size) (gl := x2.heap.size) (B1 := w6.heap.size) (B2 := w7.heap.size) (ocells_mono hall HG.out) (fun q hq => by simp [Value.ownBlock] at hq; have := HSz.out.1; have := HSz.out.2.1; omega) (HO19.out.next HX2.out) HL1.out (HO29.out.next HX2.out) (by have := HSz.out.1; have := HSz.out.2.1; have := HG.out; omega) HSz.out.2.2 rfl)
      have HBx := Lib.hid (HB9.out.trans (HX2.out.mono HB9.out.size))
      have HAp := Lib.hid (fun W h1 h2 => apart_any (some ⟨x2.heap.size, 0, none⟩) 3 w2.heap.size [.slice (some ⟨g, 0, none⟩) (L.length + 9) (L.length + 9), .slice P1 L.length d1, .slice P2 L.length d2] [spareL L, L, L] (by simp) (fun K hK => by simp at hK; rcases hK with rfl | rfl <;> (try rw [HSl.out]) <;> omega) W h1 h2)
      clear hall
      have hz2 := HB2.out.size
      have HZ2 := Lib.hid hz2
      clear hz2
      go_wp2_with fail
      refine (HAp.out _ (by have := HBx.out.size; have := HG.out; have := HSz.out; have := HX2.out.size; have := HGz.out.size; have := HW8.out.size; have := HB34.out.size; simp; omega) HLs.out).mono ?_
      rintro e x3 ⟨rfl, hx3⟩
      have hfin : Below w.heap.size w x3 := (HBx.out.alloc HBx.out.size _).trans (hx3.mono HZ2.out)
      clear hx3
      go_wp2_with fail
      go_ret
      exact ⟨rfl, hfin⟩

set_option maxRecDepth 100000 in
/-- What the walk gives, for every argument and every world that holds the table. -/
theorem contract (H : Type) (enc : TypeId × Value → H) (W : World) (base : Nat) (args : Array Value) (ds gs : List (DataW H)) (before : List MemPlace)
    (hval : ∀ (j : Nat) t v, Tryd.f4.params[j]? = some t → args[j]? = some v → Value.okWide Tryd.prog W .any base t v)
    (hW : DataW.Whole enc Tryd.prog Tryd.f4.params.toList Rows.cellKeepsSpec.vars false W args.toList ds gs before) (hL : laidMetH Tryd.prog Rows.cellKeepsRow.laid W)
    (hreach : (DataW.weightsEach Tryd.prog (Tryd.f4.params.toList ++ []) (ds ++ gs)).all (· ≤ reachBytes) = true) :
    Calls Tryd.prog 4 args W fun e W' => ∃ v, e = .returned v ∧ Rows.cellKeepsSpec.post enc Tryd.prog Tryd.f4 false true false false W args v W' := by
  have hW' := hW
  have ht := tab_of hL
  have hlts : ∀ x ∈ before, x.block < W.heap.size := fun x hx => hW'.lt x hx
  obtain ⟨p, q, hA0, hV, rfl, hfz, hnd⟩ := hW
  have hA : DataW.TrodAll enc Tryd.prog W 0 (fun _ => true) true Tryd.f4.params.toList args.toList ds p := hA0
  rw [Tryd.params4] at hA hval hreach
  obtain ⟨v0, vs0, d0, ds0, pp0, qq0, hargs, rfl, rfl, h0, rr0⟩ := trodAll_cons hA
  obtain ⟨rfl, rfl, rfl⟩ := trodAll_nil rr0
  obtain rfl : args = #[v0] := by cases args; simp_all
  obtain ⟨rfl, rfl⟩ := trodVars_none hV
  obtain ⟨b0, len0, cap0, rfl⟩ := okWide_slice Tryd.underlying22 (hval 0 22 v0 rfl rfl)
  obtain ⟨l0, hlen0, hm0, hc0, ok0, hri0⟩ := cells_in h0
  subst hlen0
  clear hA0
  refine (walk b0 cap0 l0 hm0 hc0 ok0 W ht hri0).mono fun e W' ⟨he, hb⟩ => ?_
  subst he
  exact ⟨_, rfl, post_law laidOut (by kernel_rfl) (by kernel_rfl) rfl hW' rfl hb⟩

set_option maxRecDepth 100000 in
theorem laid_met (os : Os) : laidMet Tryd.prog Rows.cellKeepsRow.laid ((laidWorld os).forCall (fun _ _ => 0) ⟨#[], #[Value.slice none 0 0], []⟩).memory :=
  laidMet_of_run' 8 (by kernel_rfl) (by kernel_rfl)
set_option maxRecDepth 100000 in
theorem reads (os : Os) {H : Type} (enc : TypeId × Value → H) : ∃ places, DataW.whole enc Tryd.prog ((laidWorld os).forCall (fun _ _ => 0) ⟨#[], #[Value.slice none 0 0], []⟩).memory Tryd.f4.params.toList Rows.cellKeepsSpec.vars false (#[Value.slice none 0 0] : Array Value).toList 8 = some ([.nil], [], places) :=
  ⟨[], by kernel_rfl⟩

set_option maxRecDepth 100000 in
theorem lifted (os : Os) (started : os.Started) (H : Type) (enc : TypeId × Value → H) (F : Stop.Interp) :
    ReturnsInHanded {} Tryd.checked os 4 .any ((OpenSpec.ofChange Rows.cellKeepsSpec).preRow enc Tryd.prog Tryd.f4 Rows.cellKeepsRow.domain false Rows.cellKeepsRow.laid) (((OpenSpec.ofChange Rows.cellKeepsSpec).at F).post enc Tryd.prog Tryd.f4 false true false false) := by
  obtain ⟨places, hx⟩ := reads os enc
  refine returnsInHanded_of_row (C := Tryd.checked) (s := OpenSpec.ofChange Rows.cellKeepsSpec) own started (by kernel_rfl) Tryd.func4
    (witness_row_at (enc := enc) (C := Tryd.checked) false (laidWorld os) #[Value.slice none 0 0] rfl (by kernel_rfl) (by kernel_rfl) (by kernel_rfl)
      (OpenSpec.preRow_of_cond 8 hx (by kernel_rfl) (fun k hk => by cases hk) (by kernel_rfl) (laid_met os))) ?_
  intro W base args ds gs before hval hW _ _ hreach hL _ _
  exact contract H enc W base args ds gs before hval hW hL hreach

theorem said : Rows.CellKeepsSaid :=
  OpenClaim.holds_of_cond 4 Tryd.f4 rfl rfl rfl rfl rfl rfl rfl ⟨rfl, rfl, rfl, rfl, rfl⟩ rfl rfl rfl rfl rfl (by kernel_rfl) Tryd.func4 (by kernel_rfl)
    (of_decide_eq_true (by kernel_rfl)) (by unfold Func.isWrapper; first | (rw [if_pos (by decide +kernel)]; kernel_rfl) | (rw [if_neg (by decide +kernel)]; exact ⟨rfl, rfl⟩))
    (fun os started H enc _ F => by rw [OpenClaim.pre_eq_preRow]; exact lifted os started H enc F)

theorem plain (f : FuncId) (fn : Func) (hf : Tryd.pinned.checked.prog.funcNamed "phosphor/phosphorlaw02.CellKeeps" = some f) (hfn : Tryd.pinned.checked.prog.funcs[f]? = some fn) :
    false = Tryd.pinned.checked.prog.looks [] ∧ ∀ (j : Nat) t, fn.params[j]? = some t → Tryd.pinned.checked.prog.wantsStandIn t = false := by
  obtain rfl : f = 4 := Option.some.inj ((show Tryd.prog.funcNamed "phosphor/phosphorlaw02.CellKeeps" = some 4 by kernel_rfl).symm.trans hf) |>.symm
  obtain rfl : fn = Tryd.f4 := (Option.some.inj (Tryd.func4.symm.trans hfn)).symm
  refine ⟨by kernel_rfl, fun j t ht => ?_⟩
  rw [Tryd.params4] at ht
  have hm : t ∈ [22] := by simpa using Array.mem_of_getElem? ht
  have hall : ([22].all fun u => !Tryd.prog.wantsStandIn u) = true := by kernel_rfl
  exact (show Tryd.prog.wantsStandIn t = false by simpa using List.all_eq_true.1 hall t hm)

/-- The card. -/
theorem card : Rows.CellKeepsCardSaid :=
  Claim7.holds_tied_plain_at .later [] _ _ _ _ said (fun _ h => by cases h) (by kernel_rfl) (fun _ h => by cases h) cellKeeps_row_tie rfl ⟨rfl, rfl⟩ (by kernel_rfl) rfl plain (by kernel_rfl)
#print axioms card
end Go.Proofs.YtgndjonalhdhkaaDoor.cellKeeps

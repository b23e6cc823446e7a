/-
  The walk of the reference that reads bytes as a row: the walk itself.
-/
import Derived.Test.YtgndjonalhdhkaaDoorPackL
import Derived.Deep.RegionLaw
import Derived.Deep.AppendLies
namespace Go.Proofs.YtgndjonalhdhkaaDoor
open Go Go.RowKit

set_option maxRecDepth 100000 in
set_option maxHeartbeats 8000000 in
theorem refDecode_any (A : Option Addr) (c : Nat) (bs : List Int) (hl : bs.length ≤ 1000000) (hok : OkBs bs) (w : World) (hr : RBs w A bs) :
    Calls Tryd.prog 11 #[.slice A bs.length c] w fun e w' => DecOut (decR z0 bs) w w' e ∧ Below w.heap.size w w' := by
  have HOk := Lib.hid hok; have HR := Lib.hid hr
  generalize hD : decR z0 bs = D
  have HD := Lib.hid hD
  clear hD hok hr
  go_enter Tryd.func11, Tryd.ntmps11
  go_wp2_with fail
  go_loopw [4, 5] (fun s i wr => ∃ (k : Nat) (pre : List Rn) (a : Rn), 7 * k ≤ bs.length ∧ i = .int .i64 ((7 * k : Nat) : Int) ∧ OCells wr w.heap.size s (flatR pre) ∧ (flatR pre).length ≤ 255 * k ∧ Below w.heap.size w wr ∧ (k = 0 ∧ a.2 = 0 ∨ ∃ m, 7 * k = m + 7 ∧ rr (bs.drop m) = some a) ∧ D = (decR a (bs.drop (7 * k))).map (pre ++ ·)) (fun _ i _ => bs.length - (intOf i).toNat)
  case atStart => exact ⟨0, [], z0, by omega, rfl, World.ownsRow_nil _ _ _ _, by simp [flatR], Below.refl _ _, .inl ⟨rfl, rfl⟩, by rw [← HD.out]; simp⟩
  case round =>
    obtain ⟨k, pre, a, hk, rfl, hown, hpl, hb, hah, hDk⟩ := hrel
    rename World => w0
    have HOwn := Lib.hid hown; have HB := Lib.hid hb; have HAh := Lib.hid hah; have HD2 := Lib.hid hDk
    have HL := Lib.hid hpl
    clear hown hb hah hDk hpl
    obtain ⟨i, hi⟩ : ∃ i, i = 7 * k := ⟨_, rfl⟩
    rw [← hi] at hk HAh HD2 ⊢
    have HI := Lib.hid hi
    clear hi
    by_cases hlt : i < bs.length
    · obtain ⟨ad, rfl, _⟩ := HR.out.at_ hlt
      have hne : bs.drop i ≠ [] := by intro h; have := congrArg List.length h; simp at this; omega
      have hws : IntKind.i64.wrap ((bs.length : Int) - i) = (bs.length : Int) - i := IntWalk.i64_in _ (by omega)
      have hw6 : IntKind.i64.wrap ((i : Int) + 6) = (i : Int) + 6 := IntWalk.i64_in _ (by omega)
      obtain ⟨i6, e6⟩ : ∃ q, q = i + 6 := ⟨_, rfl⟩
      have ht6 : ((i : Int) + 6).toNat = i6 := by omega
      cases hq : rr (bs.drop i) with
      | none =>
        have hdn := decR_none a _ hne hq
        rw [hdn] at HD2
        rcases rr_bad bs i hq with hs | ⟨b0, b6, hlen, h0, h6, hbad⟩
        · clear hdn hq hne
          have hd : decide ((bs.length : Int) - i < 7) = true := by simp; omega
          go_wp2_with fail
          go_returns
          exact ⟨.inl ⟨HD2.out, rfl⟩, HB.out⟩
        · clear hdn hq hne
          have hd : decide ((bs.length : Int) - i < 7) = false := by simp; omega
          have c0 := rbs_cell HR.out h0 _ HB.out
          rw [← e6] at h6
          have c6 := rbs_cell HR.out h6 _ HB.out
          have hx6 : (i : Int) + 6 < bs.length := by omega
          clear h0 h6 e6
          rcases hbad with rfl | ⟨hz, h1⟩
          · go_wp2_with fail
            go_returns
            exact ⟨.inl ⟨HD2.out, rfl⟩, HB.out⟩
          · have hz' : (b0 == 0) = false := by simpa using hz
            have h1' : decide (1 < b6) = true := by simpa using h1
            clear hz
            go_wp2_with fail
            go_returns
            exact ⟨.inl ⟨HD2.out, rfl⟩, HB.out⟩
      | some x =>
        obtain ⟨h7, hdn⟩ := decR_some_ a x _ hq
        obtain ⟨_, hx1, hx2⟩ := rr_ok _ x (fun y hy => HOk.out y (List.mem_of_mem_drop hy)) hq
        rw [hdn, List.drop_drop] at HD2
        rw [List.length_drop] at h7
        have h77 : i + 7 ≤ bs.length := by omega
        have HQ := Lib.hid hq
        obtain ⟨b0, b1, b2, b3, b4, b5, b6, g0, g1, g2, g3, g4, g5, g6, hz, hs6, rfl⟩ := rr_parts bs i x hq
        have o0 := HOk.out b0 (List.mem_of_getElem? g0)
        simp only at hx1 hx2
        obtain ⟨n, rfl⟩ := Int.eq_ofNat_of_zero_le o0.1
        simp only [Int.toNat_natCast] at hx1 hx2 HD2 HQ
        obtain ⟨i1, e1⟩ : ∃ q, q = i + 1 := ⟨_, rfl⟩
        obtain ⟨i2, e2⟩ : ∃ q, q = i + 2 := ⟨_, rfl⟩
        obtain ⟨i3, e3⟩ : ∃ q, q = i + 3 := ⟨_, rfl⟩
        obtain ⟨i4, e4⟩ : ∃ q, q = i + 4 := ⟨_, rfl⟩
        obtain ⟨i5, e5⟩ : ∃ q, q = i + 5 := ⟨_, rfl⟩
        rw [← e1] at g1; rw [← e2] at g2; rw [← e3] at g3; rw [← e4] at g4; rw [← e5] at g5; rw [← e6] at g6
        have HT1 : Hid (((i : Int) + 1).toNat = i1) := Lib.hid (by omega)
        have HT2 : Hid (((i : Int) + 2).toNat = i2) := Lib.hid (by omega)
        have HT3 : Hid (((i : Int) + 3).toNat = i3) := Lib.hid (by omega)
        have HT4 : Hid (((i : Int) + 4).toNat = i4) := Lib.hid (by omega)
        have HT5 : Hid (((i : Int) + 5).toNat = i5) := Lib.hid (by omega)
        have HT6 : Hid (((i : Int) + 6).toNat = i6) := Lib.hid (by omega)
        have H0 := Lib.hid (rbs_cell HR.out g0); have H1 := Lib.hid (rbs_cell HR.out g1); have H2 := Lib.hid (rbs_cell HR.out g2); have H3 := Lib.hid (rbs_cell HR.out g3)
        have H4 := Lib.hid (rbs_cell HR.out g4); have H5 := Lib.hid (rbs_cell HR.out g5); have H6 := Lib.hid (rbs_cell HR.out g6)
        have o1 := HOk.out b1 (List.mem_of_getElem? g1); have o2 := HOk.out b2 (List.mem_of_getElem? g2); have o3 := HOk.out b3 (List.mem_of_getElem? g3); have o4 := HOk.out b4 (List.mem_of_getElem? g4)
        have o6 := HOk.out b6 (List.mem_of_getElem? g6)
        have HO5 := Lib.hid (HOk.out b5 (List.mem_of_getElem? g5))
        have hC6 : Hid ((cell6 b1 b2 b3 b4 b5 b6).ok) := Lib.hid (cell6_ok b1 b2 b3 b4 b5 b6 (by intro y hy; simp at hy; rcases hy with rfl | rfl | rfl | rfl | rfl | rfl <;> (apply HOk.out; apply List.mem_of_getElem?; assumption)))
        clear hdn hq hne h7 e1 e2 e3 e4 e5 e6 g0 g1 g2 g3 g4 g5 g6
        have hd : decide ((bs.length : Int) - i < 7) = false := by simp; omega
        have hz' : ((n : Int) == 0) = false := by simpa using hz
        have h1' : decide (1 < b6) = false := by simp; omega
        have c0 := H0.out _ HB.out
        have c6 := H6.out _ HB.out
        have hx6 : (i : Int) + 6 < bs.length := by omega
        clear hz
        go_upto_region 7 with fail
        clear c0 c6 hd hz' h1' hws hx6 hw6 ht6
        go_cut [45] (fun u wx => ∃ q : Bool, u = .bool q ∧ w0 = wx ∧ (q = true → ∃ m, i = m + 7 ∧ rr (bs.drop m) = some a ∧ (a.2 : Int) < 255) ∧ (q = false → takesC a.2 a.1 (cell6 b1 b2 b3 b4 b5 b6) = false))
        case first =>
          rcases HAh.out with ⟨hk0, ha0⟩ | ⟨m, hm, hrm⟩
          · have hi0 : i = 0 := by rw [HI.out, hk0]
            have HF : Hid (takesC a.2 a.1 (cell6 b1 b2 b3 b4 b5 b6) = false) := Lib.hid (by simp [takesC, ha0])
            have hdz : ¬ 0 < i := by omega
            clear hi0 hk0 ha0
            go_wp2_with fail
            go_meet
            exact ⟨false, rfl, rfl, fun e => (by cases e), fun _ => HF.out⟩
          · obtain ⟨p0, p1, p2, p3, p4, p5, p6, q0, _, _, _, _, _, _, hp0, _, ha⟩ := rr_parts bs m a hrm
            have hr0 := HOk.out p0 (List.mem_of_getElem? q0)
            have hmi : m = i - 7 := by omega
            rw [hmi] at q0
            have c7 := rbs_cell HR.out q0 _ HB.out
            have hip : 0 < i := by omega
            have hb1 : (0 : Int) ≤ (i : Int) - 7 := by omega
            have hb2 : (i : Int) - 7 < bs.length := by omega
            have HM := Lib.hid hm; have HRM := Lib.hid hrm
            have HA2 : Hid ((a.2 : Int) = p0) := Lib.hid (by rw [ha]; simp only; omega)
            clear q0 hmi hm hrm ha hp0
            by_cases hp : p0 < 255
            · have hdp : decide (p0 < 255) = true := by simpa using hp
              go_wp2_with fail
              go_meet
              exact ⟨true, rfl, rfl, fun _ => ⟨m, HM.out, HRM.out, by rw [HA2.out]; exact hp⟩, fun e => (by cases e)⟩
            · have hdp : decide (p0 < 255) = false := by simpa using hp
              go_wp2_with fail
              go_meet
              exact ⟨false, rfl, rfl, fun e => (by cases e), fun _ => by
                rw [← Bool.not_eq_true, takesC_iff, HA2.out]
                rintro ⟨_, h, _⟩
                omega⟩
        case rest =>
        obtain ⟨q, rfl, rfl, hq1, hq2⟩ := hcut
        have HQ1 := Lib.hid hq1; have HQ2 := Lib.hid hq2
        clear hq1 hq2
        go_upto_if 45 with fail
        go_cut [6, 7] (fun _ _ wx => takesC a.2 a.1 (cell6 b1 b2 b3 b4 b5 b6) = false ∧ Below w0.heap.size w0 wx)
        case first =>
          cases q with
          | false =>
            go_wp2_with fail
            go_meet
            exact ⟨HQ2.out (by first | rfl | trivial), Below.refl _ _⟩
          | true =>
            obtain ⟨m, hm, hrm, ha⟩ := HQ1.out (by first | rfl | trivial)
            have HM := Lib.hid hm
            have HTk : Hid (∀ b : Bool, (b = true ↔ ∀ t, 1 ≤ t → t < 7 → bs[i + t]? = bs[i + t - 7]?) → takesC a.2 a.1 (cell6 b1 b2 b3 b4 b5 b6) = b) := Lib.hid (fun b hb => by
              subst hm
              exact takes_ahead bs m a (cell6 b1 b2 b3 b4 b5 b6, n) HOk.out hrm HQ.out b ha hb)
            have hi7 : 7 ≤ i := by omega
            clear hm hrm ha HQ1 HQ2 HAh
            go_wp2_with fail
            go_loopw [6, 7] (fun q s wq => ∃ (j : Nat) (b : Bool), 1 ≤ j ∧ j ≤ 7 ∧ s = .int .i64 j ∧ q = .bool b ∧ (b = true ↔ ∀ t, 1 ≤ t → t < j → bs[i + t]? = bs[i + t - 7]?) ∧ Below w0.heap.size w0 wq) (fun _ s _ => 7 - (intOf s).toNat)
            case atStart => exact ⟨1, true, by omega, by omega, rfl, rfl, ⟨fun _ t h1 h2 => by omega, fun _ => rfl⟩, Below.refl _ _⟩
            case round =>
              obtain ⟨j, b, j1, j2, rfl, rfl, hbq, hbn⟩ := hrel
              have HBq := Lib.hid hbq; have HBn := Lib.hid hbn
              clear hbq hbn
              have HBw := Lib.hid (HB.out.trans (HBn.out.mono HB.out.size))
              by_cases hj : j < 7
              · have hdj : decide ((j : Int) < 7) = true := by simp; omega
                cases b with
                | true =>
                  obtain ⟨y, hy⟩ : ∃ y, bs[i + j]? = some y := ⟨_, List.getElem?_eq_getElem (by omega)⟩
                  obtain ⟨z, hz⟩ : ∃ z, bs[i + j - 7]? = some z := ⟨_, List.getElem?_eq_getElem (by omega)⟩
                  have HY := Lib.hid hy; have HZ := Lib.hid hz
                  obtain ⟨iy, ey⟩ : ∃ q, q = i + j := ⟨_, rfl⟩
                  obtain ⟨iz, ez⟩ : ∃ q, q = i + j - 7 := ⟨_, rfl⟩
                  rw [← ey] at hy; rw [← ez] at hz
                  have HCy := Lib.hid (rbs_cell HR.out hy); have HCz := Lib.hid (rbs_cell HR.out hz)
                  have hw1 : IntKind.i64.wrap ((i : Int) + j) = (i : Int) + j := IntWalk.i64_in _ (by omega)
                  have hw2 : IntKind.i64.wrap ((i : Int) + j - 7) = (i : Int) + j - 7 := IntWalk.i64_in _ (by omega)
                  have ht1 : ((i : Int) + j).toNat = iy := by omega
                  have ht2 : ((i : Int) + j - 7).toNat = iz := by omega
                  have hb1 : (0 : Int) ≤ (i : Int) + j := by omega
                  have hb2 : (i : Int) + j < bs.length := by omega
                  have hb3 : (7 : Int) ≤ (i : Int) + j := by omega
                  have hb3' : 7 ≤ i + j := by omega
                  have hb4 : (i : Int) + j - 7 < bs.length := by omega
                  clear hy hz ey ez
                  go_upto_region 12 with fail
                  refine wp_region_mix_lit (by kernel_rfl) [] (by kernel_rfl) (by kernel_rfl) (by kernel_rfl) (by rfl) (by simp [apartK] <;> omega) (by simp [startK]) (by simp [stabK]) (⟨fun _ => undef, by simp [okK]⟩) (fun β hβ => ?_)
                  repeat (
                    refine lex_val (v := ?_) rfl rfl (fun w' hf => ?_) ?_
                    rotate_left
                    · have cy := HCy.out w' (HBw.out.trans (hf.only.below0.mono HBw.out.size)); have cz := HCz.out w' (HBw.out.trans (hf.only.below0.mono HBw.out.size)); go_simp
                      try rfl
                    try simp only [Act.put, List.setIfInBounds_toArray, List.set_cons_zero, List.set_cons_succ])
                  refine lex_nil fun w2 he => ?_
                  have HFin := Lib.hid (HBn.out.trans (he.only.below0.mono HBn.out.size))
                  clear he
                  go_wp2_with fail
                  go_roundw
                  case rel => exact ⟨j + 1, (y == z), by omega, by omega, by go_num, rfl, (by
                    have h0 := HBq.out.1 rfl
                    constructor
                    · intro e t t1 t2
                      by_cases htj : t < j
                      · exact h0 t t1 htj
                      · obtain rfl : t = j := by omega
                        rw [HY.out, HZ.out, eq_of_beq e]
                    · intro h
                      have := h j (by omega) (by omega)
                      rw [HY.out, HZ.out] at this
                      rw [Option.some.inj this]; exact beq_self_eq_true _), HFin.out⟩
                  case measure => simp [intOf]; omega
                | false =>
                  go_upto_region 12 with fail
                  refine wp_region_mix_lit (by kernel_rfl) [] (by kernel_rfl) (by kernel_rfl) (by kernel_rfl) (by rfl) (by simp [apartK] <;> omega) (by simp [startK]) (by simp [stabK]) (⟨fun _ => undef, by simp [okK]⟩) (fun β hβ => ?_)
                  repeat (
                    refine lex_val (v := ?_) rfl rfl (fun w' hf => ?_) ?_
                    rotate_left
                    · go_simp
                      try rfl
                    try simp only [Act.put, List.setIfInBounds_toArray, List.set_cons_zero, List.set_cons_succ])
                  repeat (
                    refine lex_skip rfl rfl ?_
                    try simp only [Act.put, List.setIfInBounds_toArray, List.set_cons_zero, List.set_cons_succ])
                  repeat (
                    refine lex_val (v := ?_) rfl rfl (fun w' hf => ?_) ?_
                    rotate_left
                    · go_simp
                      try rfl
                    try simp only [Act.put, List.setIfInBounds_toArray, List.set_cons_zero, List.set_cons_succ])
                  refine lex_nil ?_
                  intro w2 he
                  have HFin := Lib.hid (HBn.out.trans (he.only.below0.mono HBn.out.size))
                  clear he
                  go_wp2_with fail
                  go_roundw
                  case rel => exact ⟨j + 1, false, by omega, by omega, by go_num, rfl, (by
                    constructor
                    · intro e; cases e
                    · intro h; exact HBq.out.2 (fun t t1 t2 => h t t1 (by omega))), HFin.out⟩
                  case measure => simp [intOf]; omega
              · obtain rfl : j = 7 := by omega
                have HT := Lib.hid (HTk.out b HBq.out)
                cases b with
                | true =>
                  rw [HT.out] at HD2
                  go_wp2_with fail
                  go_returns
                  exact ⟨.inl ⟨HD2.out, rfl⟩, HBw.out⟩
                | false =>
                  go_wp2_with fail
                  go_meet
                  exact ⟨HT.out, HBn.out⟩
        case rest =>
        obtain ⟨htk, hbx⟩ := hcut
        rw [htk] at HD2
        have HBx := Lib.hid (HB.out.trans (hbx.mono HB.out.size)); have HOx := Lib.hid (HOwn.out.next hbx)
        clear htk hbx HQ1 HQ2 HAh HB HOwn
        have ht1 := HT1.out; have ht2 := HT2.out; have ht3 := HT3.out; have ht4 := HT4.out; have ht5 := HT5.out
        have hx1' : (i : Int) + 1 < bs.length := by omega
        have hx2' : (i : Int) + 2 < bs.length := by omega
        have hx3' : (i : Int) + 3 < bs.length := by omega
        have hx4' : (i : Int) + 4 < bs.length := by omega
        have hw1 : IntKind.i64.wrap ((i : Int) + 1) = (i : Int) + 1 := IntWalk.i64_in _ (by omega)
        have hw2 : IntKind.i64.wrap ((i : Int) + 2) = (i : Int) + 2 := IntWalk.i64_in _ (by omega)
        have hw3 : IntKind.i64.wrap ((i : Int) + 3) = (i : Int) + 3 := IntWalk.i64_in _ (by omega)
        have hw4 : IntKind.i64.wrap ((i : Int) + 4) = (i : Int) + 4 := IntWalk.i64_in _ (by omega)
        have hc1 : IntKind.i64.wrap b1 = b1 := IntWalk.i64_in _ (by omega)
        have hc2 : IntKind.i64.wrap b2 = b2 := IntWalk.i64_in _ (by omega)
        have hc3 : IntKind.i64.wrap b3 = b3 := IntWalk.i64_in _ (by omega)
        have hc4 : IntKind.i64.wrap b4 = b4 := IntWalk.i64_in _ (by omega)
        have hm1 : IntKind.i64.wrap (b1 * 16777216) = b1 * 16777216 := IntWalk.i64_in _ (by omega)
        have hm2 : IntKind.i64.wrap (b2 * 65536) = b2 * 65536 := IntWalk.i64_in _ (by omega)
        have hm3 : IntKind.i64.wrap (b3 * 256) = b3 * 256 := IntWalk.i64_in _ (by omega)
        have hs2 : IntKind.i64.wrap (b1 * 16777216 + b2 * 65536) = b1 * 16777216 + b2 * 65536 := IntWalk.i64_in _ (by omega)
        have hs3 : IntKind.i64.wrap (b1 * 16777216 + b2 * 65536 + b3 * 256) = b1 * 16777216 + b2 * 65536 + b3 * 256 := IntWalk.i64_in _ (by omega)
        have hs4 : IntKind.i64.wrap (b1 * 16777216 + b2 * 65536 + b3 * 256 + b4) = b1 * 16777216 + b2 * 65536 + b3 * 256 + b4 := IntWalk.i64_in _ (by omega)
        go_upto_region 15 with fail
        refine wp_region_mix_lit (by kernel_rfl) [] (by kernel_rfl) (by kernel_rfl) (by kernel_rfl) (by rfl) (by simp [apartK] <;> omega) (by simp [startK]) (by simp [stabK]) (⟨fun _ => undef, by simp [okK]⟩) (fun β hβ => ?_)
        repeat (
          refine lex_val (v := ?_) rfl rfl (fun w' hf => ?_) ?_
          rotate_left
          · have d1 := H1.out w' (HBx.out.trans (hf.only.below0.mono HBx.out.size)); have d2 := H2.out w' (HBx.out.trans (hf.only.below0.mono HBx.out.size)); have d3 := H3.out w' (HBx.out.trans (hf.only.below0.mono HBx.out.size)); have d4 := H4.out w' (HBx.out.trans (hf.only.below0.mono HBx.out.size)); go_simp
            try rfl
          try simp only [Act.put, List.setIfInBounds_toArray, List.set_cons_zero, List.set_cons_succ])
        refine lex_nil ?_
        intro w2 he
        have HBy := Lib.hid (HBx.out.trans (he.only.below0.mono HBx.out.size)); have HOy := Lib.hid (HOx.out.next he.only.below0)
        clear he HBx HOx hw1 hw2 hw3 hw4 ht1 ht2 ht3 ht4 ht5 HT1 HT2 HT3 HT4 H1 H2 H3 H4 hx1' hx2' hx3' hx4' hc1 hc2 hc3 hc4 hm1 hm2 hm3 hs2 hs3 hs4
        go_upto_if 99 with fail
        have hgU := glyph_of _ b1 b2 b3 b4 rfl
        have HGo := Lib.hid hC6.out.1
        have hU : 0 ≤ b1 * 16777216 + b2 * 65536 + b3 * 256 + b4 ∧ b1 * 16777216 + b2 * 65536 + b3 * 256 + b4 ≤ 4294967295 := by omega
        generalize b1 * 16777216 + b2 * 65536 + b3 * 256 + b4 = U at *
        have HgU := Lib.hid hgU
        clear hgU
        go_cut [8] (fun u wx => u = .int .i64 (glyph4 b1 b2 b3 b4) ∧ w2 = wx)
        case first =>
          by_cases hlU : U < 2147483648
          · have hd1 : decide (2147483648 ≤ U) = false := by simp; omega
            have HE : Hid (U = glyph4 b1 b2 b3 b4) := Lib.hid (by rw [HgU.out, if_pos hlU])
            go_wp2_with fail
            go_meet
            exact ⟨congrArg (Value.int .i64) HE.out, rfl⟩
          · have hd1 : decide (2147483648 ≤ U) = true := by simp; omega
            have hw1 : IntKind.i64.wrap (U - 4294967296) = U - 4294967296 := IntWalk.i64_in _ (by omega)
            have HE : Hid (U - 4294967296 = glyph4 b1 b2 b3 b4) := Lib.hid (by rw [HgU.out, if_neg hlU])
            go_wp2_with fail
            go_meet
            exact ⟨congrArg (Value.int .i64) HE.out, rfl⟩
        case rest =>
        obtain ⟨rfl, rfl⟩ := hcut
        clear HgU hU
        have hgr : -2147483648 ≤ glyph4 b1 b2 b3 b4 ∧ glyph4 b1 b2 b3 b4 ≤ 2147483647 := HGo.out
        have HC : Hid (cell6 b1 b2 b3 b4 b5 b6 = ⟨glyph4 b1 b2 b3 b4, b5, b6 == 1⟩) := Lib.hid rfl
        have HFl : Hid (flatR (pre ++ [(cell6 b1 b2 b3 b4 b5 b6, n)]) = flatR pre ++ List.replicate n ⟨glyph4 b1 b2 b3 b4, b5, b6 == 1⟩) := Lib.hid (by rw [flatR_snoc]; rfl)
        clear HGo
        generalize glyph4 b1 b2 b3 b4 = G at *
        have hcn : IntKind.i64.wrap (n : Int) = n := IntWalk.i64_in _ (by omega)
        have hgi : IntKind.i32.wrap G = G := by rw [IntKind.wrap_i32]; omega
        obtain ⟨i0, hi0, hz0, hz1, hz2⟩ := info_parts info_cell
        have HI0 := Lib.hid hi0; have HZ0 := Lib.hid hz0; have HZ1 := Lib.hid hz1; have HZ2 := Lib.hid hz2
        clear hi0 hz0 hz1 hz2
        go_wp2_with fail
        go_loopw [4, 9] (fun s j wq => ∃ m : Nat, m ≤ n ∧ j = .int .i64 m ∧ OCells wq w.heap.size s (flatR pre ++ List.replicate m ⟨G, b5, b6 == 1⟩) ∧ Below w.heap.size w wq) (fun _ j _ => n - (intOf j).toNat)
        case atStart => exact ⟨0, by omega, rfl, by simpa using HOy.out, HBy.out⟩
        case round =>
          obtain ⟨m, hm, rfl, hom, hbm⟩ := hrel
          have HOm := Lib.hid hom; have HBm := Lib.hid hbm
          clear hom hbm
          have d0 := H0.out _ HBm.out
          by_cases hlm : m < n
          · have hlen : (flatR pre ++ List.replicate m (⟨G, b5, b6 == 1⟩ : Cl)).length ≤ 255 * k + m := by
              rw [List.length_append, List.length_replicate]; have := HL.out; omega
            have hkb : 7 * k ≤ 1000000 := by have := HI.out; omega
            have HM := Lib.hid (flat_more (flatR pre) ⟨G, b5, b6 == 1⟩ m)
            generalize flatR pre ++ List.replicate m (⟨G, b5, b6 == 1⟩ : Cl) = L at *
            go_upto_region 21 with fail
            clear d0
            have d5 := H5.out _ HBm.out; have d6 := H6.out _ HBm.out
            have ht5 := HT5.out
            have ht6 := HT6.out
            have hx5' : (i : Int) + 5 < bs.length := by omega
            have hz5' : (0 : Int) ≤ (i : Int) + 5 := by omega
            have hz6' : (0 : Int) ≤ (i : Int) + 6 := by omega
            have hx6' : (i : Int) + 6 < bs.length := by omega
            have hw5 : IntKind.i64.wrap ((i : Int) + 5) = (i : Int) + 5 := IntWalk.i64_in _ (by omega)
            have hw6 : IntKind.i64.wrap ((i : Int) + 6) = (i : Int) + 6 := IntWalk.i64_in _ (by omega)
            have HOw := Lib.hid (ocells_own HOm.out)
            have d5a : ∀ o, (wr.alloc o).cell? (ad.add i5) = some (.int .u8 b5) := fun o => H5.out _ (HBm.out.alloc HBm.out.size o)
            have d6a : ∀ o, (wr.alloc o).cell? (ad.add i6) = some (.int .u8 b6) := fun o => H6.out _ (HBm.out.alloc HBm.out.size o)
            go_region_law
              (first
                | (refine step_append_lies _ (by rfl) _ _ _ (by rfl) w.heap.size 42 i0 _ 3 8 Tryd.underlying22 HI0.out HZ0.out HZ1.out HZ2.out rfl (by decide) u4 L.length _ (by rfl) (by first | exact (World.ownsRow.alloc HOw.out _) | exact (World.ownsRow.drew (World.ownsRow.alloc HOw.out _)) | exact (World.ownsRow.alloc (World.ownsRow.drew HOw.out) _)) ⟨wr.heap.size, 0, none⟩ 1 1 [.int .i32 G, .int .u8 b5, .bool (b6 == 1)] (by rfl) (by rfl) (World.news_of_block (cs := #[.int .i32 G, .int .u8 b5, .bool (b6 == 1)]) (t := 42) (fr := (0, 0)) (heap_alloc_new _ _)) (cell_one _ _ _) (by omega) (by unfold maxLen; omega) (by omega) (by have := HBm.out.size; simp; omega) (wr.heap.size + 1) (by simp) ?_; intro gg cap w4 hown4 hgrow hat hlt4; have HB4 : Hid (Below w.heap.size w w4) := Lib.hid (by have h1 := fun o => HBm.out.alloc HBm.out.size o; have h2 := fun o => (HBm.out.alloc HBm.out.size o).drew; have h3 := fun o => (HBm.out.drew).alloc HBm.out.size o; have hq := fun q hq => (World.ownsRow.lt HOw.out q hq).1; first | exact (h1 _).grown hgrow (h1 _).size hq | exact (h2 _).grown hgrow (h2 _).size hq | exact (h3 _).grown hgrow (h3 _).size hq); have HO4 := Lib.hid hown4; clear hown4 hgrow hat hlt4))
            go_wp2_with fail
            all_goals
              go_roundw
              case rel => exact ⟨m + 1, by omega, by go_num, by rw [HM.out]; simpa [OCells, Cl.cells] using HO4.out, HB4.out⟩
              case measure => simp [intOf]; omega
          · obtain rfl : m = n := by omega
            go_wp2_with fail
            go_roundw
            case rel =>
              have hik := HI.out
              refine ⟨k + 1, pre ++ [(cell6 b1 b2 b3 b4 b5 b6, m)], (cell6 b1 b2 b3 b4 b5 b6, m), by omega, congrArg (Value.int .i64) (by omega), by rw [HFl.out]; exact HOm.out, ?_, HBm.out, .inr ⟨i, by omega, HQ.out⟩, ?_⟩
              · rw [HFl.out, List.length_append, List.length_replicate]; have := HL.out; omega
              · rw [show 7 * (k + 1) = i + 7 from by omega, HD2.out]
                simp [Option.map_map, Function.comp_def]
            case measure => simp [intOf]; omega
    · have hke : i = bs.length := by omega
      have hdl : bs.drop i = [] := by rw [hke]; exact List.drop_length
      rw [hdl] at HD2
      clear hdl
      go_wp2_with fail
      go_returns
      exact ⟨.inr ⟨pre, _, by rw [HD2.out]; simp [decR], rfl, HOwn.out⟩, HB.out⟩
end Go.Proofs.YtgndjonalhdhkaaDoor

/-
  The function that a control sequence is.
-/
import Derived.Test.YtegcebdnofnigaaDoorGatE
namespace Go.Proofs.YtegcebdnofnigaaDoor
open Go Go.RowKit

set_option maxRecDepth 100000 in
set_option maxHeartbeats 8000000 in
theorem findC_any (c m : Nat) (s : ByteArray) (hs : s.size ≤ 1000) (lvl : Int) (w : World) (ht : Ten w) : Calls Tryd.prog 7 #[.agg (tkS c m s), .int .i64 lvl] w fun e w' => e = .returned (.tuple #[.int .i64 (findF lvl (idP 4 c m s) (fkF 4)).1, .bool (findF lvl (idP 4 c m s) (fkF 4)).2]) ∧ Below w.heap.size w w' := by
  have b1 := Blk.new w 32 (tkS c m s)
  have hb : Below w.heap.size w (w.alloc (.cells (tkS c m s) 32)) := (Below.refl _ w).alloc (Nat.le_refl _) _
  have H1 := Lib.hid b1; have HB := Lib.hid hb
  have HD := Lib.hid (fun W g => desC_any c m s hs W g)
  have HI := Lib.hid (fun W g => idOfC_any c m s hs W g)
  have HF : Hid (∀ W : World, Calls Tryd.prog 12 #[.int .i64 4] W fun e w' => ∃ v, e = .returned v ∧ OFc w' W.heap.size v (fkF 4) ∧ Below W.heap.size W w') := Lib.hid (fun W => factsOf_any 4 ⟨by omega, by omega⟩ W)
  have HT := Lib.hid (ht.next hb)
  have hln := fk_len 4
  have q0 := b1.cell 0
  generalize fkF 4 = l at *
  generalize hX : findF lvl (idP 4 c m s) l = X at *
  replace hX := Lib.hid hX
  generalize hid : idP 4 c m s = id at *
  clear b1 hb ht hid
  unfold tkS at H1 HB HT HD HI q0 ⊢
  unfold dg0 at HD
  go_enter Tryd.func7, Tryd.ntmps7
  go_upto_region 1 with fail
  generalize (w.alloc (.cells #[.int .i64 4, .int .u8 (c : Int), .int .u8 (m : Int), .slice none 0 0, .string s, .slice none 0 0] 32)) = W0 at *
  go_wp2_with (first | (refine wpList_load_row rfl _ _ rfl w.heap.size rfl _ _ (0, 0) _ H1.out tkUnder rfl tkSize ?_))
  refine (HD.out _ HT.out).mono ?_
  rintro e w1 ⟨rfl, hb1⟩
  have hb2 := hb1.alloc hb1.size (.cells #[.int .i64 0, .bool false, .int .i64 0] 37)
  have H1n := Lib.hid (H1.out.next hb2)
  have HBn := Lib.hid (HB.out.trans (hb2.mono HB.out.size))
  have HTn := Lib.hid (HT.out.next hb2)
  clear hb1 hb2 H1 HB HT HD q0
  go_upto_region 4 with fail
  generalize (w1.alloc (.cells #[.int .i64 0, .bool false, .int .i64 0] 37)) = w1a at *
  go_wp2_with (first | (refine wpList_load_row rfl _ _ rfl w.heap.size rfl _ _ (0, 0) _ H1n.out tkUnder rfl tkSize ?_))
  refine (HI.out _ HTn.out).mono ?_
  rintro e w2 ⟨rfl, hb2⟩
  have q0 := (H1n.out.next hb2).cell 0
  have HB2 := Lib.hid (HBn.out.trans (hb2.mono HBn.out.size))
  clear hb2 H1n HBn HTn HI
  go_upto_region 5 with fail
  go_wp2_with fail
  refine (HF.out _).mono ?_
  rintro e w3 ⟨v, rfl, ho, hb⟩
  obtain ⟨A, cap, rfl, hr⟩ := OFc.reads ho
  have HR := Lib.hid hr
  have HB3 := Lib.hid (HB2.out.trans (hb.mono HB2.out.size))
  clear ho hr hb HF HB2 q0
  go_wp2_with fail
  go_loopw [31] (fun j wr => ∃ i : Nat, i ≤ l.length ∧ j = .int .i64 i ∧ Hid (findF lvl id (l.drop i) = X) ∧ Below w.heap.size w wr ∧ Below w3.heap.size w3 wr) (fun j _ => l.length - (intOf j).toNat)
  case atStart => exact ⟨0, by omega, rfl, hX, HB3.out, Below.refl _ _⟩
  case round =>
    obtain ⟨i, hi, rfl, hgi, hwi, hbi⟩ := hrel
    have HWi := Lib.hid hwi
    have HRi := Lib.hid (HR.out.next hbi)
    have HBi := Lib.hid hbi
    clear hwi hbi HB3 hX
    by_cases hlt : i < l.length
    · have hgd := findF_drop lvl id l i hlt
      obtain ⟨ad, rfl, _⟩ := HRi.out.2 (by omega)
      obtain ⟨s0, s1, s2, s3⟩ := HRi.out.four hlt
      have hwi1 : IntKind.i64.wrap ((i : Int) + 1) = (i : Int) + 1 := IntWalk.i64_in _ (by omega)
      have m0 : (0 : Int) ≤ (i : Int) := by omega
      have m1 : ((i : Int) < (l.length : Int)) = True := eq_true (by omega)
      generalize l[i] = x at *
      obtain ⟨xn, xm, xi, xl⟩ := x
      simp only at s0 s1 s2 s3 hgd
      have hal : Below wr.heap.size wr (wr.alloc (.cells #[.int .i64 xn, .string xm, .string xi, .int .i64 xl] 34)) := (Below.refl _ _).alloc (Nat.le_refl _) _
      have HWn := Lib.hid (HWi.out.trans (hal.mono HWi.out.size))
      have HBn := Lib.hid (HBi.out.trans (hal.mono HBi.out.size))
      clear hal
      by_cases he : xi = id ∧ xl ≤ lvl
      · rw [if_pos he] at hgd
        obtain ⟨rfl, he2⟩ := he
        have hXe : Hid (X = (xn, true)) := Lib.hid (by rw [← hgi.out, hgd])
        clear hgd hgi
        go_upto_region 10 with fail
        rw [hXe.out]
        exact bodyPost_ret (results_tmp2 rfl _ _ _) rfl ⟨rfl, HWn.out⟩
      · rw [if_neg he] at hgd
        have HG2 : Hid (findF lvl id (l.drop (i + 1)) = X) := Lib.hid (by rw [← hgi.out, hgd])
        clear hgd hgi
        by_cases h1 : xi = id
        · have h2 : ¬ xl ≤ lvl := fun h => he ⟨h1, h⟩
          subst h1
          clear he
          go_wp2_with fail
          go_roundw
          case rel => exact ⟨i + 1, by omega, by go_num, HG2, HWn.out, HBn.out⟩
          case measure => simp [intOf]; omega
        · have h1t : (xi.toList = id.toList) = False := eq_false (fun h => h1 (by have := str_eq (a := xi) (b := id); rw [h] at this; simpa using this.symm))
          clear he
          go_wp2_with fail
          go_roundw
          case rel => exact ⟨i + 1, by omega, by go_num, HG2, HWn.out, HBn.out⟩
          case measure => simp [intOf]; omega
    · obtain rfl : i = l.length := by omega
      have m1 : ((l.length : Int) < (l.length : Int)) = False := eq_false (by omega)
      have hXe : Hid (X = (0, false)) := Lib.hid (by have := hgi.out; rw [List.drop_length] at this; exact this.symm)
      clear hgi
      go_wp2_with fail
      rw [hXe.out]
      exact bodyPost_ret (results_tmp2 rfl _ _ _) rfl ⟨rfl, HWi.out⟩
theorem count_any (w : World) : Calls Tryd.prog 8 #[] w fun e w' => e = .returned (.int .i64 112) ∧ w' = w := by
  go_enter Tryd.func8, Tryd.ntmps8
  go_wp2_with fail
  go_ret
  exact ⟨rfl, rfl⟩
theorem fnd_set : findF 1 (idP 4 104 63 ⟨#[]⟩) (fkF 4) = (71, true) := by decide +kernel
theorem fnd_inv : findF 3 (idP 4 122 0 ⟨#[42]⟩) (fkF 4) = (0, false) := by decide +kernel
theorem nm_set : (factF 71).nm = ⟨#[68, 69, 67, 83, 69, 84]⟩ := by decide +kernel
theorem awake_any (w : World) (ht : Ten w) : Calls Tryd.prog 4 #[] w fun e w' => e = .returned (.bool true) ∧ Below w.heap.size w w' := by
  have HT := Lib.hid ht
  have HA : Hid (∀ W : World, Ten W → Calls Tryd.prog 7 #[.agg #[.int .i64 4, .int .u8 104, .int .u8 63, .slice none 0 0, .string ⟨#[]⟩, .slice none 0 0], .int .i64 1] W fun e w' => e = .returned (.tuple #[.int .i64 71, .bool true]) ∧ Below W.heap.size W w') := Lib.hid (fun W g => by
    have := findC_any 104 63 ⟨#[]⟩ (by decide) 1 W g
    rw [fnd_set] at this; exact this)
  have HB : Hid (∀ W : World, Ten W → Calls Tryd.prog 7 #[.agg #[.int .i64 4, .int .u8 122, .int .u8 0, .slice none 0 0, .string ⟨#[42]⟩, .slice none 0 0], .int .i64 3] W fun e w' => e = .returned (.tuple #[.int .i64 0, .bool false]) ∧ Below W.heap.size W w') := Lib.hid (fun W g => by
    have := findC_any 122 0 ⟨#[42]⟩ (by decide) 3 W g
    rw [fnd_inv] at this; exact this)
  have HN : Hid (∀ W : World, Calls Tryd.prog 5 #[.int .i64 71] W fun e w' => e = .returned (.string ⟨#[68, 69, 67, 83, 69, 84]⟩) ∧ Below W.heap.size W w') := Lib.hid (fun W => by
    have := name_any 71 W
    rw [nm_set] at this; exact this)
  go_enter Tryd.func4, Tryd.ntmps4
  go_upto_region 1 with fail
  go_wp2_with fail
  refine (HA.out _ HT.out).mono ?_
  rintro e w1 ⟨rfl, hb1⟩
  have HT1 := Lib.hid (HT.out.next hb1)
  have HB1 := Lib.hid hb1
  clear hb1 HT HA
  go_upto_region 2 with fail
  go_wp2_with fail
  refine (HB.out _ HT1.out).mono ?_
  rintro e w2 ⟨rfl, hb2⟩
  have HB2 := Lib.hid (HB1.out.trans (hb2.mono HB1.out.size))
  clear hb2 HT1 HB HB1
  go_upto_region 3 with fail
  go_wp2_with fail
  refine (count_any _).mono ?_
  rintro e w3 ⟨rfl, rfl⟩
  go_wp2_with fail
  refine (HN.out _).mono ?_
  rintro e w4 ⟨rfl, hb4⟩
  have HB4 := Lib.hid (HB2.out.trans (hb4.mono HB2.out.size))
  clear hb4 HB2 HN
  go_wp2_with fail
  go_ret
  exact ⟨rfl, HB4.out⟩
end Go.Proofs.YtegcebdnofnigaaDoor

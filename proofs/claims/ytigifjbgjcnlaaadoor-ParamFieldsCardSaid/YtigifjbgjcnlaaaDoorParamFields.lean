/-
  ParamFields holds, whatever the input: the card of the statement, with the library's three tables tied to the program's text.
-/
import Derived.Test.YtigifjbgjcnlaaaDoorCards
import Derived.Test.YtigifjbgjcnlaaaDoorTie
import Derived.Test.YtigifjbgjcnlaaaDoorFrameP
import Derived.Test.YtigifjbgjcnlaaaDoorAwakeP
import Derived.Test.YtigifjbgjcnlaaaDoorParQ
import Derived.Test.YtigifjbgjcnlaaaDoorKit3
namespace Go.Proofs.YtigifjbgjcnlaaaDoor.paramFields
open Go.ChangeShapes Go.WideShapes Go.ChangeAt Go.RowKit
open Go.ChangeMaps (open_string)

set_option maxHeartbeats 8000000 in
theorem walk (a : ByteArray) (_ha : a.size ≤ maxLen) (b : ByteArray) (_hb' : b.size ≤ maxLen) (w : World) (ht : Ten w) :
    Calls Tryd.prog 8 #[.string a, .string b] w fun e w' => e = .returned (.bool true) ∧ Below w.heap.size w w' := by
  by_cases h1 : a.size ≤ 300 ∧ b.size ≤ 300
  rotate_left
  · have hd : (decide ((a.size : Int) > 300) = true) ∨ (decide ((a.size : Int) > 300) = false ∧ decide ((b.size : Int) > 300) = true) := by
      by_cases h : a.size ≤ 300
      · exact .inr ⟨by simp; omega, by simp; omega⟩
      · exact .inl (by simp; omega)
    clear h1
    rcases hd with hd | ⟨hd, hd2⟩
    all_goals
      go_enter Tryd.func8, Tryd.ntmps8
      go_wp2_with fail
      refine (awakeP_any _ ht).mono ?_
      rintro e w1 ⟨rfl, hb⟩
      go_wp2_with fail
      go_ret
      exact ⟨rfl, hb⟩
  · obtain ⟨ha3, hb3⟩ := h1
    have hd1 : decide ((a.size : Int) > 300) = false := by simp; omega
    have hd2 : decide ((b.size : Int) > 300) = false := by simp; omega
    have HPa := Lib.hid (parse_all a (by unfold maxLen; omega))
    have HPb := Lib.hid (parse_all b (by unfold maxLen; omega))
    have hcl : (a ++ ⟨#[59]⟩ ++ b).size ≤ 601 := by
      have : (⟨#[59]⟩ : ByteArray).size = 1 := rfl
      rw [ByteArray.size_append, ByteArray.size_append]; omega
    have hcd : (a ++ ⟨#[59]⟩ ++ b).data.toList = a.data.toList ++ [59] ++ b.data.toList := by simp
    have HPc := Lib.hid (parse_all (a ++ ⟨#[59]⟩ ++ b) (by unfold maxLen; omega))
    rw [hcd] at HPc
    clear hcl hcd
    by_cases hok : OkB a.data.toList ∧ OkB b.data.toList
    rotate_left
    · have hno : ¬ OkB (a.data.toList ++ [59] ++ b.data.toList) := fun h => hok ((okb_cat _ _).1 h)
      rw [parseV_no hno] at HPc
      have he : (parseV a.data.toList).2 = 3 ∨ ((parseV a.data.toList).2 = 0 ∧ (parseV b.data.toList).2 = 3) := by
        by_cases h : OkB a.data.toList
        · have h2 : ¬ OkB b.data.toList := fun h2 => hok ⟨h, h2⟩
          rw [parseV_yes h, parseV_no h2]; exact .inr ⟨rfl, rfl⟩
        · rw [parseV_no h]; exact .inl rfl
      clear hno hok
      generalize (parseV a.data.toList).1 = X at *
      generalize (parseV b.data.toList).1 = Y at *
      generalize (parseV a.data.toList).2 = ea at *
      generalize (parseV b.data.toList).2 = eb at *
      rcases he with rfl | ⟨rfl, rfl⟩
      all_goals
        go_enter Tryd.func8, Tryd.ntmps8
        go_wp2_with fail
        refine (awakeP_any _ ht).mono ?_
        rintro e w1 ⟨rfl, hb⟩
        go_wp2_with fail
        refine (HPa.out _).mono ?_
        rintro e w2 ⟨⟨A2, c2, rfl, _⟩, hb2⟩
        replace hb := hb.trans (hb2.mono hb.size); clear hb2
        go_wp2_with fail
        refine (HPb.out _).mono ?_
        rintro e w3 ⟨⟨A3, c3, rfl, _⟩, hb2⟩
        replace hb := hb.trans (hb2.mono hb.size); clear hb2
        go_wp2_with fail
        refine (HPc.out _).mono ?_
        rintro e w4 ⟨⟨A4, c4, rfl, _⟩, hb2⟩
        replace hb := hb.trans (hb2.mono hb.size); clear hb2
        go_wp2_with fail
        go_ret
        exact ⟨rfl, hb⟩
    · obtain ⟨hoa, hob⟩ := hok
      rw [parseV_yes hoa] at HPa
      rw [parseV_yes hob] at HPb
      rw [parseV_yes ((okb_cat _ _).2 ⟨hoa, hob⟩)] at HPc
      have hXl := numsOf_len a.data.toList
      have hYl := numsOf_len b.data.toList
      have HXs : Hid (sideOf a.data.toList = if numsOf a.data.toList = [] then [0] else numsOf a.data.toList) := Lib.hid rfl
      have HYs : Hid (sideOf b.data.toList = if numsOf b.data.toList = [] then [0] else numsOf b.data.toList) := Lib.hid rfl
      have HFull := Lib.hid (cat_full a.data.toList b.data.toList)
      have HMore := Lib.hid (cat_more a.data.toList b.data.toList)
      have hZl := numsOf_len (a.data.toList ++ [59] ++ b.data.toList)
      have hsx := side_len a.data.toList
      have hsy := side_len b.data.toList
      generalize numsOf (a.data.toList ++ [59] ++ b.data.toList) = Z at *
      generalize numsOf a.data.toList = X at *
      generalize numsOf b.data.toList = Y at *
      generalize sideOf a.data.toList = SX at *
      generalize sideOf b.data.toList = SY at *
      obtain ⟨i0, hi0, hz0, hz1, hz2⟩ := info_parts info_int
      have HI := Lib.hid hi0; have HZ0 := Lib.hid hz0; have HZ1 := Lib.hid hz1; have HZ2 := Lib.hid hz2
      clear hi0 hz0 hz1 hz2 hoa hob
      go_enter Tryd.func8, Tryd.ntmps8
      go_wp2_with fail
      refine (awakeP_any _ ht).mono ?_
      rintro e w1 ⟨rfl, hb⟩
      go_wp2_with fail
      refine (HPa.out _).mono ?_
      rintro e w2 ⟨⟨A2, c2, rfl, hx⟩, hb2⟩
      have hrx := OInts.reads hx
      replace hb := hb.trans (hb2.mono hb.size); clear hb2 hx
      go_wp2_with fail
      refine (HPb.out _).mono ?_
      rintro e w3 ⟨⟨A3, c3, rfl, hy⟩, hb2⟩
      have hry := OInts.reads hy
      replace hrx := hrx.next hb2
      replace hb := hb.trans (hb2.mono hb.size); clear hb2 hy
      go_wp2_with fail
      refine (HPc.out _).mono ?_
      rintro e w4 ⟨⟨A4, c4, rfl, hz⟩, hb2⟩
      have hrz := OInts.reads hz
      replace hrx := hrx.next hb2
      replace hry := hry.next hb2
      replace hb := hb.trans (hb2.mono hb.size); clear hb2 hz
      have HRX := Lib.hid hrx; have HRY := Lib.hid hry; have HRZ := Lib.hid hrz; have HB := Lib.hid hb
      clear hrx hry hrz hb
      have HS := Lib.hid (fun A B c d W h1 h2 => sameInts_any A B c d Z Z (by unfold maxLen; omega) (by unfold maxLen; omega) W h1 h2)
      have HEq : Hid ((Z == Z) = true) := Lib.hid (by simp)
      have hXc : (X = [] ∧ SX = [0]) ∨ (X ≠ [] ∧ SX = X) := by
        by_cases h : X = []
        · exact .inl ⟨h, by rw [HXs.out, if_pos h]⟩
        · exact .inr ⟨h, by rw [HXs.out, if_neg h]⟩
      have hYc : (Y = [] ∧ SY = [0]) ∨ (Y ≠ [] ∧ SY = Y) := by
        by_cases h : Y = []
        · exact .inl ⟨h, by rw [HYs.out, if_pos h]⟩
        · exact .inr ⟨h, by rw [HYs.out, if_neg h]⟩
      clear HXs HYs
      rcases hXc with ⟨rfl, rfl⟩ | ⟨hX, rfl⟩
      · have HDum0 : Hid True := Lib.hid trivial
        rcases hYc with ⟨rfl, rfl⟩ | ⟨hY, rfl⟩
        · have HDum : Hid True := Lib.hid trivial
          have hbe : Below w4.heap.size w4 w4 := Below.refl _ _
          have hbW : Below w4.heap.size w4 ((w4.alloc (.cells #[.int .i64 0] 3)).alloc (.cells #[.int .i64 0] 3)) := ((Below.refl _ _).alloc (Nat.le_refl _) _).alloc (by simp) _
          have hx2 : RInts ((w4.alloc (.cells #[.int .i64 0] 3)).alloc (.cells #[.int .i64 0] 3)) (some ⟨w4.heap.size, 0, none⟩) [0] := (rints_new w4 3 [0] #[.int .i64 0] rfl w4.heap.size rfl).next ((Below.refl _ _).alloc (Nat.le_refl _) _)
          have hy2 : RInts ((w4.alloc (.cells #[.int .i64 0] 3)).alloc (.cells #[.int .i64 0] 3)) (some ⟨(w4.heap.size + 1), 0, none⟩) [0] := rints_new (w4.alloc (.cells #[.int .i64 0] 3)) 3 [0] #[.int .i64 0] rfl (w4.heap.size + 1) (by simp)
          have hz2 : RInts ((w4.alloc (.cells #[.int .i64 0] 3)).alloc (.cells #[.int .i64 0] 3)) A4 Z := HRZ.out.next hbW
          have hbA : Below w.heap.size w ((w4.alloc (.cells #[.int .i64 0] 3)).alloc (.cells #[.int .i64 0] 3)) := HB.out.trans (hbW.mono HB.out.size)
          have HX2 := Lib.hid hx2; have HY2 := Lib.hid hy2; have HZ2' := Lib.hid hz2; have HBA := Lib.hid hbA
          clear hbW hx2 hy2 hz2 hbA hbe HB HRX HRY HRZ
          have HM := Lib.hid (HMore.out (by decide))
          obtain ⟨L, hL⟩ : ∃ L : List Int, L = [0] ++ [0] := ⟨_, rfl⟩
          rw [← hL] at HM
          have HL := Lib.hid hL; clear hL
          have hown0 : (((w4.alloc (.cells #[.int .i64 0] 3)).alloc (.cells #[.int .i64 0] 3)).alloc (.cells #[] 3)).ownsRow (w4.heap.size + 1 + 1) 3 1 (.slice (some ⟨(w4.heap.size + 1 + 1), 0, none⟩) 0 0) 0 [] := by simpa using World.ownsRow_lit (e := 3) (size := 1) ((w4.alloc (.cells #[.int .i64 0] 3)).alloc (.cells #[.int .i64 0] 3)) #[] 0 (Nat.le_refl _) (Nat.zero_le _) rfl
          have hb0 : Below ((w4.alloc (.cells #[.int .i64 0] 3)).alloc (.cells #[.int .i64 0] 3)).heap.size ((w4.alloc (.cells #[.int .i64 0] 3)).alloc (.cells #[.int .i64 0] 3)) (((w4.alloc (.cells #[.int .i64 0] 3)).alloc (.cells #[.int .i64 0] 3)).alloc (.cells #[] 3)) := (Below.refl _ _).alloc (Nat.le_refl _) _
          have HX3 : Hid (Reads (((w4.alloc (.cells #[.int .i64 0] 3)).alloc (.cells #[.int .i64 0] 3)).alloc (.cells #[] 3)) ((w4.alloc (.cells #[.int .i64 0] 3)).alloc (.cells #[.int .i64 0] 3)).heap.size 1 (some ⟨w4.heap.size, 0, none⟩) 1 ([0].map (Value.int .i64))) := Lib.hid (Reads.below HX2.out hb0)
          have HY3 : Hid (Reads (((w4.alloc (.cells #[.int .i64 0] 3)).alloc (.cells #[.int .i64 0] 3)).alloc (.cells #[] 3)) ((w4.alloc (.cells #[.int .i64 0] 3)).alloc (.cells #[.int .i64 0] 3)).heap.size 1 (some ⟨(w4.heap.size + 1), 0, none⟩) 1 ([0].map (Value.int .i64))) := Lib.hid (Reads.below HY2.out hb0)
          have HO0 := Lib.hid hown0; have HB0 := Lib.hid hb0; clear hown0 hb0
          have hsz : ((w4.alloc (.cells #[.int .i64 0] 3)).alloc (.cells #[.int .i64 0] 3)).heap.size = (w4.heap.size + 1 + 1) := by simp
          have HSZ := Lib.hid hsz; clear hsz
          have HLe0 : Hid (((w4.alloc (.cells #[.int .i64 0] 3)).alloc (.cells #[.int .i64 0] 3)).heap.size ≤ (((w4.alloc (.cells #[.int .i64 0] 3)).alloc (.cells #[.int .i64 0] 3)).alloc (.cells #[] 3)).heap.size) := Lib.hid (by simp)
          have hN : L.length ≤ 30 ∨ 30 < L.length := by omega
          rcases hN with hN | hN
          · have HDum2 : Hid True := Lib.hid trivial
            have HZL : Hid (Z = L) := Lib.hid (by rw [HM.out, List.take_of_length_le hN])
            have HS2 : Hid (∀ (A5 : Option Addr) (c5 : Nat) (W : World), RInts W A4 Z → RInts W A5 L → Calls Tryd.prog 13 #[.slice A4 Z.length c4, .slice A5 L.length c5] W fun e w' => e = .returned (.bool true) ∧ Below W.heap.size W w') := Lib.hid (fun A5 c5 W h1 h2 => by
              have := sameInts_any A4 A5 c4 c5 Z L (by unfold maxLen; omega) (by unfold maxLen; omega) W h1 h2
              rwa [show (Z == L) = true from by rw [HZL.out]; simp] at this)
            have hmin : min (L.length : Int) 30 = (L.length : Int) := by omega
            clear HM
            go_wp2_with (first
              | (at_builtin; refine wpList_append_any _ rfl _ _ 23 rfl (w4.heap.size + 1 + 1) 3 i0 _ 1 8 Tryd.underlying23 HI.out HZ0.out HZ1.out HZ2.out rfl (by decide) _ _ _ rfl HOA.out _ (some ⟨(w4.heap.size + 1), 0, none⟩) _ 1 _ rfl HYA.out (fun u hu => by obtain ⟨n, _, rfl⟩ := List.mem_map.1 hu; rfl) (by unfold maxLen; first | omega | (simp; done) | (simp; omega)) (by first | omega | (simp; done) | (simp; omega)) (by have := HGA.out.size; simp at this ⊢; omega) ?_; intro v2 wB hownB hgB hatB; have HBB := Lib.hid (HGA.out.grown hgB HGA.out.size (fun k hk => Nat.le_trans (Nat.le_of_eq HSZ.out) (HOA.out.lt k hk).1)); have hB2 : wB.ownsRow (w4.heap.size + 1 + 1) 3 1 v2 L.length (L.map (Value.int .i64)) := (by rw [HL.out]; first | (simpa using hownB) | (simpa [Nat.add_comm] using hownB)); obtain ⟨A5, c5, rfl, hc5, hr5⟩ := own_ints hB2; have HR5 := Lib.hid hr5; clear hownB hgB hatB hB2 hr5)
              | (at_builtin; refine wpList_append_any _ rfl _ _ 23 rfl (w4.heap.size + 1 + 1) 3 i0 _ 1 8 Tryd.underlying23 HI.out HZ0.out HZ1.out HZ2.out rfl (by decide) _ _ _ rfl HO0.out _ (some ⟨w4.heap.size, 0, none⟩) _ 1 _ rfl HX3.out (fun u hu => by obtain ⟨n, _, rfl⟩ := List.mem_map.1 hu; rfl) (by unfold maxLen; first | omega | (simp; done) | (simp; omega)) (by first | omega | (simp; done) | (simp; omega)) (by simp) ?_; intro v1 wA hownA hgA hatA; have HOA := Lib.hid hownA; have hbA : Below ((w4.alloc (.cells #[.int .i64 0] 3)).alloc (.cells #[.int .i64 0] 3)).heap.size ((w4.alloc (.cells #[.int .i64 0] 3)).alloc (.cells #[.int .i64 0] 3)) wA := HB0.out.grown hgA HLe0.out (fun k hk => Nat.le_of_eq (HSZ.out.trans (Option.some.inj hk))); have HYA := Lib.hid (Reads.below HY2.out hbA); have HGA := Lib.hid hbA; clear hownA hgA hatA hbA))
            ((with_reducible refine (HS2.out _ _ _ (HZ2'.out.next HBB.out) HR5.out).mono ?_); rintro e w5 ⟨rfl, hb5⟩)
            go_wp2_with fail
            go_ret
            exact ⟨rfl, (HBA.out.trans (HBB.out.mono HBA.out.size)).trans (hb5.mono (Nat.le_trans HBA.out.size HBB.out.size))⟩
          · have HDum2 : Hid True := Lib.hid trivial
            have h30l : (L.take 30).length = 30 := by rw [List.length_take]; omega
            have HS2 : Hid (∀ (A5 : Option Addr) (c5 : Nat) (W : World), RInts W A4 Z → RInts W A5 L → Calls Tryd.prog 13 #[.slice A4 Z.length c4, .slice A5 30 c5] W fun e w' => e = .returned (.bool true) ∧ Below W.heap.size W w') := Lib.hid (fun A5 c5 W h1 h2 => by
              have := sameInts_any A4 A5 c4 c5 Z (L.take 30) (by unfold maxLen; omega) (by unfold maxLen; omega) W h1 (rints_take h2 30)
              rwa [h30l, show (Z == L.take 30) = true from by rw [HM.out]; simp] at this)
            clear h30l
            have hmin : min (L.length : Int) 30 = 30 := by omega
            clear HM
            go_wp2_with (first
              | (at_builtin; refine wpList_append_any _ rfl _ _ 23 rfl (w4.heap.size + 1 + 1) 3 i0 _ 1 8 Tryd.underlying23 HI.out HZ0.out HZ1.out HZ2.out rfl (by decide) _ _ _ rfl HOA.out _ (some ⟨(w4.heap.size + 1), 0, none⟩) _ 1 _ rfl HYA.out (fun u hu => by obtain ⟨n, _, rfl⟩ := List.mem_map.1 hu; rfl) (by unfold maxLen; first | omega | (simp; done) | (simp; omega)) (by first | omega | (simp; done) | (simp; omega)) (by have := HGA.out.size; simp at this ⊢; omega) ?_; intro v2 wB hownB hgB hatB; have HBB := Lib.hid (HGA.out.grown hgB HGA.out.size (fun k hk => Nat.le_trans (Nat.le_of_eq HSZ.out) (HOA.out.lt k hk).1)); have hB2 : wB.ownsRow (w4.heap.size + 1 + 1) 3 1 v2 L.length (L.map (Value.int .i64)) := (by rw [HL.out]; first | (simpa using hownB) | (simpa [Nat.add_comm] using hownB)); obtain ⟨A5, c5, rfl, hc5, hr5⟩ := own_ints hB2; have HR5 := Lib.hid hr5; clear hownB hgB hatB hB2 hr5)
              | (at_builtin; refine wpList_append_any _ rfl _ _ 23 rfl (w4.heap.size + 1 + 1) 3 i0 _ 1 8 Tryd.underlying23 HI.out HZ0.out HZ1.out HZ2.out rfl (by decide) _ _ _ rfl HO0.out _ (some ⟨w4.heap.size, 0, none⟩) _ 1 _ rfl HX3.out (fun u hu => by obtain ⟨n, _, rfl⟩ := List.mem_map.1 hu; rfl) (by unfold maxLen; first | omega | (simp; done) | (simp; omega)) (by first | omega | (simp; done) | (simp; omega)) (by simp) ?_; intro v1 wA hownA hgA hatA; have HOA := Lib.hid hownA; have hbA : Below ((w4.alloc (.cells #[.int .i64 0] 3)).alloc (.cells #[.int .i64 0] 3)).heap.size ((w4.alloc (.cells #[.int .i64 0] 3)).alloc (.cells #[.int .i64 0] 3)) wA := HB0.out.grown hgA HLe0.out (fun k hk => Nat.le_of_eq (HSZ.out.trans (Option.some.inj hk))); have HYA := Lib.hid (Reads.below HY2.out hbA); have HGA := Lib.hid hbA; clear hownA hgA hatA hbA))
            ((with_reducible refine (HS2.out _ _ _ (HZ2'.out.next HBB.out) HR5.out).mono ?_); rintro e w5 ⟨rfl, hb5⟩)
            go_wp2_with fail
            go_ret
            exact ⟨rfl, (HBA.out.trans (HBB.out.mono HBA.out.size)).trans (hb5.mono (Nat.le_trans HBA.out.size HBB.out.size))⟩
        · have HDum : Hid True := Lib.hid trivial
          have hY0 : ((SY.length : Int) == 0) = false := by have := List.length_pos_iff.2 hY; simp; omega
          clear hY
          have hbe : Below w4.heap.size w4 w4 := Below.refl _ _
          have hbW : Below w4.heap.size w4 (w4.alloc (.cells #[.int .i64 0] 3)) := (Below.refl _ _).alloc (Nat.le_refl _) _
          have hx2 : RInts (w4.alloc (.cells #[.int .i64 0] 3)) (some ⟨w4.heap.size, 0, none⟩) [0] := rints_new w4 3 [0] #[.int .i64 0] rfl w4.heap.size rfl
          have hy2 : RInts (w4.alloc (.cells #[.int .i64 0] 3)) A3 SY := HRY.out.next hbW
          have hz2 : RInts (w4.alloc (.cells #[.int .i64 0] 3)) A4 Z := HRZ.out.next hbW
          have hbA : Below w.heap.size w (w4.alloc (.cells #[.int .i64 0] 3)) := HB.out.trans (hbW.mono HB.out.size)
          have HX2 := Lib.hid hx2; have HY2 := Lib.hid hy2; have HZ2' := Lib.hid hz2; have HBA := Lib.hid hbA
          clear hbW hx2 hy2 hz2 hbA hbe HB HRX HRY HRZ
          have HM := Lib.hid (HMore.out (by decide))
          obtain ⟨L, hL⟩ : ∃ L : List Int, L = [0] ++ SY := ⟨_, rfl⟩
          rw [← hL] at HM
          have HL := Lib.hid hL; clear hL
          have hown0 : ((w4.alloc (.cells #[.int .i64 0] 3)).alloc (.cells #[] 3)).ownsRow (w4.heap.size + 1) 3 1 (.slice (some ⟨(w4.heap.size + 1), 0, none⟩) 0 0) 0 [] := by simpa using World.ownsRow_lit (e := 3) (size := 1) (w4.alloc (.cells #[.int .i64 0] 3)) #[] 0 (Nat.le_refl _) (Nat.zero_le _) rfl
          have hb0 : Below (w4.alloc (.cells #[.int .i64 0] 3)).heap.size (w4.alloc (.cells #[.int .i64 0] 3)) ((w4.alloc (.cells #[.int .i64 0] 3)).alloc (.cells #[] 3)) := (Below.refl _ _).alloc (Nat.le_refl _) _
          have HX3 : Hid (Reads ((w4.alloc (.cells #[.int .i64 0] 3)).alloc (.cells #[] 3)) (w4.alloc (.cells #[.int .i64 0] 3)).heap.size 1 (some ⟨w4.heap.size, 0, none⟩) 1 ([0].map (Value.int .i64))) := Lib.hid (Reads.below HX2.out hb0)
          have HY3 : Hid (Reads ((w4.alloc (.cells #[.int .i64 0] 3)).alloc (.cells #[] 3)) (w4.alloc (.cells #[.int .i64 0] 3)).heap.size 1 A3 SY.length (SY.map (Value.int .i64))) := Lib.hid (Reads.below HY2.out hb0)
          have HO0 := Lib.hid hown0; have HB0 := Lib.hid hb0; clear hown0 hb0
          have hsz : (w4.alloc (.cells #[.int .i64 0] 3)).heap.size = (w4.heap.size + 1) := by simp
          have HSZ := Lib.hid hsz; clear hsz
          have HLe0 : Hid ((w4.alloc (.cells #[.int .i64 0] 3)).heap.size ≤ ((w4.alloc (.cells #[.int .i64 0] 3)).alloc (.cells #[] 3)).heap.size) := Lib.hid (by simp)
          have hN : L.length ≤ 30 ∨ 30 < L.length := by omega
          rcases hN with hN | hN
          · have HDum2 : Hid True := Lib.hid trivial
            have HZL : Hid (Z = L) := Lib.hid (by rw [HM.out, List.take_of_length_le hN])
            have HS2 : Hid (∀ (A5 : Option Addr) (c5 : Nat) (W : World), RInts W A4 Z → RInts W A5 L → Calls Tryd.prog 13 #[.slice A4 Z.length c4, .slice A5 L.length c5] W fun e w' => e = .returned (.bool true) ∧ Below W.heap.size W w') := Lib.hid (fun A5 c5 W h1 h2 => by
              have := sameInts_any A4 A5 c4 c5 Z L (by unfold maxLen; omega) (by unfold maxLen; omega) W h1 h2
              rwa [show (Z == L) = true from by rw [HZL.out]; simp] at this)
            have hmin : min (L.length : Int) 30 = (L.length : Int) := by omega
            clear HM
            go_wp2_with (first
              | (at_builtin; refine wpList_append_any _ rfl _ _ 23 rfl (w4.heap.size + 1) 3 i0 _ 1 8 Tryd.underlying23 HI.out HZ0.out HZ1.out HZ2.out rfl (by decide) _ _ _ rfl HOA.out _ A3 _ c3 _ rfl HYA.out (fun u hu => by obtain ⟨n, _, rfl⟩ := List.mem_map.1 hu; rfl) (by unfold maxLen; first | omega | (simp; done) | (simp; omega)) (by first | omega | (simp; done) | (simp; omega)) (by have := HGA.out.size; simp at this ⊢; omega) ?_; intro v2 wB hownB hgB hatB; have HBB := Lib.hid (HGA.out.grown hgB HGA.out.size (fun k hk => Nat.le_trans (Nat.le_of_eq HSZ.out) (HOA.out.lt k hk).1)); have hB2 : wB.ownsRow (w4.heap.size + 1) 3 1 v2 L.length (L.map (Value.int .i64)) := (by rw [HL.out]; first | (simpa using hownB) | (simpa [Nat.add_comm] using hownB)); obtain ⟨A5, c5, rfl, hc5, hr5⟩ := own_ints hB2; have HR5 := Lib.hid hr5; clear hownB hgB hatB hB2 hr5)
              | (at_builtin; refine wpList_append_any _ rfl _ _ 23 rfl (w4.heap.size + 1) 3 i0 _ 1 8 Tryd.underlying23 HI.out HZ0.out HZ1.out HZ2.out rfl (by decide) _ _ _ rfl HO0.out _ (some ⟨w4.heap.size, 0, none⟩) _ 1 _ rfl HX3.out (fun u hu => by obtain ⟨n, _, rfl⟩ := List.mem_map.1 hu; rfl) (by unfold maxLen; first | omega | (simp; done) | (simp; omega)) (by first | omega | (simp; done) | (simp; omega)) (by simp) ?_; intro v1 wA hownA hgA hatA; have HOA := Lib.hid hownA; have hbA : Below (w4.alloc (.cells #[.int .i64 0] 3)).heap.size (w4.alloc (.cells #[.int .i64 0] 3)) wA := HB0.out.grown hgA HLe0.out (fun k hk => Nat.le_of_eq (HSZ.out.trans (Option.some.inj hk))); have HYA := Lib.hid (Reads.below HY2.out hbA); have HGA := Lib.hid hbA; clear hownA hgA hatA hbA))
            ((with_reducible refine (HS2.out _ _ _ (HZ2'.out.next HBB.out) HR5.out).mono ?_); rintro e w5 ⟨rfl, hb5⟩)
            go_wp2_with fail
            go_ret
            exact ⟨rfl, (HBA.out.trans (HBB.out.mono HBA.out.size)).trans (hb5.mono (Nat.le_trans HBA.out.size HBB.out.size))⟩
          · have HDum2 : Hid True := Lib.hid trivial
            have h30l : (L.take 30).length = 30 := by rw [List.length_take]; omega
            have HS2 : Hid (∀ (A5 : Option Addr) (c5 : Nat) (W : World), RInts W A4 Z → RInts W A5 L → Calls Tryd.prog 13 #[.slice A4 Z.length c4, .slice A5 30 c5] W fun e w' => e = .returned (.bool true) ∧ Below W.heap.size W w') := Lib.hid (fun A5 c5 W h1 h2 => by
              have := sameInts_any A4 A5 c4 c5 Z (L.take 30) (by unfold maxLen; omega) (by unfold maxLen; omega) W h1 (rints_take h2 30)
              rwa [h30l, show (Z == L.take 30) = true from by rw [HM.out]; simp] at this)
            clear h30l
            have hmin : min (L.length : Int) 30 = 30 := by omega
            clear HM
            go_wp2_with (first
              | (at_builtin; refine wpList_append_any _ rfl _ _ 23 rfl (w4.heap.size + 1) 3 i0 _ 1 8 Tryd.underlying23 HI.out HZ0.out HZ1.out HZ2.out rfl (by decide) _ _ _ rfl HOA.out _ A3 _ c3 _ rfl HYA.out (fun u hu => by obtain ⟨n, _, rfl⟩ := List.mem_map.1 hu; rfl) (by unfold maxLen; first | omega | (simp; done) | (simp; omega)) (by first | omega | (simp; done) | (simp; omega)) (by have := HGA.out.size; simp at this ⊢; omega) ?_; intro v2 wB hownB hgB hatB; have HBB := Lib.hid (HGA.out.grown hgB HGA.out.size (fun k hk => Nat.le_trans (Nat.le_of_eq HSZ.out) (HOA.out.lt k hk).1)); have hB2 : wB.ownsRow (w4.heap.size + 1) 3 1 v2 L.length (L.map (Value.int .i64)) := (by rw [HL.out]; first | (simpa using hownB) | (simpa [Nat.add_comm] using hownB)); obtain ⟨A5, c5, rfl, hc5, hr5⟩ := own_ints hB2; have HR5 := Lib.hid hr5; clear hownB hgB hatB hB2 hr5)
              | (at_builtin; refine wpList_append_any _ rfl _ _ 23 rfl (w4.heap.size + 1) 3 i0 _ 1 8 Tryd.underlying23 HI.out HZ0.out HZ1.out HZ2.out rfl (by decide) _ _ _ rfl HO0.out _ (some ⟨w4.heap.size, 0, none⟩) _ 1 _ rfl HX3.out (fun u hu => by obtain ⟨n, _, rfl⟩ := List.mem_map.1 hu; rfl) (by unfold maxLen; first | omega | (simp; done) | (simp; omega)) (by first | omega | (simp; done) | (simp; omega)) (by simp) ?_; intro v1 wA hownA hgA hatA; have HOA := Lib.hid hownA; have hbA : Below (w4.alloc (.cells #[.int .i64 0] 3)).heap.size (w4.alloc (.cells #[.int .i64 0] 3)) wA := HB0.out.grown hgA HLe0.out (fun k hk => Nat.le_of_eq (HSZ.out.trans (Option.some.inj hk))); have HYA := Lib.hid (Reads.below HY2.out hbA); have HGA := Lib.hid hbA; clear hownA hgA hatA hbA))
            ((with_reducible refine (HS2.out _ _ _ (HZ2'.out.next HBB.out) HR5.out).mono ?_); rintro e w5 ⟨rfl, hb5⟩)
            go_wp2_with fail
            go_ret
            exact ⟨rfl, (HBA.out.trans (HBB.out.mono HBA.out.size)).trans (hb5.mono (Nat.le_trans HBA.out.size HBB.out.size))⟩
      · have HDum0 : Hid True := Lib.hid trivial
        rcases hYc with ⟨rfl, rfl⟩ | ⟨hY, rfl⟩
        · have HDum : Hid True := Lib.hid trivial
          have hbe : Below w4.heap.size w4 w4 := Below.refl _ _
          have hbW : Below w4.heap.size w4 (w4.alloc (.cells #[.int .i64 0] 3)) := (Below.refl _ _).alloc (Nat.le_refl _) _
          have hx2 : RInts (w4.alloc (.cells #[.int .i64 0] 3)) A2 SX := HRX.out.next hbW
          have hy2 : RInts (w4.alloc (.cells #[.int .i64 0] 3)) (some ⟨w4.heap.size, 0, none⟩) [0] := rints_new w4 3 [0] #[.int .i64 0] rfl w4.heap.size (by simp)
          have hz2 : RInts (w4.alloc (.cells #[.int .i64 0] 3)) A4 Z := HRZ.out.next hbW
          have hbA : Below w.heap.size w (w4.alloc (.cells #[.int .i64 0] 3)) := HB.out.trans (hbW.mono HB.out.size)
          have HX2 := Lib.hid hx2; have HY2 := Lib.hid hy2; have HZ2' := Lib.hid hz2; have HBA := Lib.hid hbA
          clear hbW hx2 hy2 hz2 hbA hbe HB HRX HRY HRZ
          have hX0 : ((SX.length : Int) == 0) = false := by have := List.length_pos_iff.2 hX; simp; omega
          clear hX
          by_cases hfull : SX.length = 30
          · have HFl := Lib.hid (HFull.out hfull)
            have h30 : ((SX.length : Int) == 30) = true := by simp; omega
            clear hfull
            go_wp2_with fail
            refine (sameInts_any A4 A2 c4 c2 Z SX (by unfold maxLen; omega) (by unfold maxLen; omega) _ HZ2'.out HX2.out).mono ?_
            rintro e w5 ⟨rfl, hb5⟩
            rw [show (Z == SX) = true from by rw [HFl.out]; simp]
            go_wp2_with fail
            go_ret
            exact ⟨rfl, HBA.out.trans (hb5.mono HBA.out.size)⟩
          · have h30 : ((SX.length : Int) == 30) = false := by simp; omega
            have HM := Lib.hid (HMore.out hfull)
            clear hfull
            obtain ⟨L, hL⟩ : ∃ L : List Int, L = SX ++ [0] := ⟨_, rfl⟩
            rw [← hL] at HM
            have HL := Lib.hid hL; clear hL
            have hown0 : ((w4.alloc (.cells #[.int .i64 0] 3)).alloc (.cells #[] 3)).ownsRow (w4.heap.size + 1) 3 1 (.slice (some ⟨(w4.heap.size + 1), 0, none⟩) 0 0) 0 [] := by simpa using World.ownsRow_lit (e := 3) (size := 1) (w4.alloc (.cells #[.int .i64 0] 3)) #[] 0 (Nat.le_refl _) (Nat.zero_le _) rfl
            have hb0 : Below (w4.alloc (.cells #[.int .i64 0] 3)).heap.size (w4.alloc (.cells #[.int .i64 0] 3)) ((w4.alloc (.cells #[.int .i64 0] 3)).alloc (.cells #[] 3)) := (Below.refl _ _).alloc (Nat.le_refl _) _
            have HX3 : Hid (Reads ((w4.alloc (.cells #[.int .i64 0] 3)).alloc (.cells #[] 3)) (w4.alloc (.cells #[.int .i64 0] 3)).heap.size 1 A2 SX.length (SX.map (Value.int .i64))) := Lib.hid (Reads.below HX2.out hb0)
            have HY3 : Hid (Reads ((w4.alloc (.cells #[.int .i64 0] 3)).alloc (.cells #[] 3)) (w4.alloc (.cells #[.int .i64 0] 3)).heap.size 1 (some ⟨w4.heap.size, 0, none⟩) 1 ([0].map (Value.int .i64))) := Lib.hid (Reads.below HY2.out hb0)
            have HO0 := Lib.hid hown0; have HB0 := Lib.hid hb0; clear hown0 hb0
            have hsz : (w4.alloc (.cells #[.int .i64 0] 3)).heap.size = (w4.heap.size + 1) := by simp
            have HSZ := Lib.hid hsz; clear hsz
            have HLe0 : Hid ((w4.alloc (.cells #[.int .i64 0] 3)).heap.size ≤ ((w4.alloc (.cells #[.int .i64 0] 3)).alloc (.cells #[] 3)).heap.size) := Lib.hid (by simp)
            have hN : L.length ≤ 30 ∨ 30 < L.length := by omega
            rcases hN with hN | hN
            · have HDum2 : Hid True := Lib.hid trivial
              have HZL : Hid (Z = L) := Lib.hid (by rw [HM.out, List.take_of_length_le hN])
              have HS2 : Hid (∀ (A5 : Option Addr) (c5 : Nat) (W : World), RInts W A4 Z → RInts W A5 L → Calls Tryd.prog 13 #[.slice A4 Z.length c4, .slice A5 L.length c5] W fun e w' => e = .returned (.bool true) ∧ Below W.heap.size W w') := Lib.hid (fun A5 c5 W h1 h2 => by
                have := sameInts_any A4 A5 c4 c5 Z L (by unfold maxLen; omega) (by unfold maxLen; omega) W h1 h2
                rwa [show (Z == L) = true from by rw [HZL.out]; simp] at this)
              have hmin : min (L.length : Int) 30 = (L.length : Int) := by omega
              clear HM
              go_wp2_with (first
                | (at_builtin; refine wpList_append_any _ rfl _ _ 23 rfl (w4.heap.size + 1) 3 i0 _ 1 8 Tryd.underlying23 HI.out HZ0.out HZ1.out HZ2.out rfl (by decide) _ _ _ rfl HOA.out _ (some ⟨w4.heap.size, 0, none⟩) _ 1 _ rfl HYA.out (fun u hu => by obtain ⟨n, _, rfl⟩ := List.mem_map.1 hu; rfl) (by unfold maxLen; first | omega | (simp; done) | (simp; omega)) (by first | omega | (simp; done) | (simp; omega)) (by have := HGA.out.size; simp at this ⊢; omega) ?_; intro v2 wB hownB hgB hatB; have HBB := Lib.hid (HGA.out.grown hgB HGA.out.size (fun k hk => Nat.le_trans (Nat.le_of_eq HSZ.out) (HOA.out.lt k hk).1)); have hB2 : wB.ownsRow (w4.heap.size + 1) 3 1 v2 L.length (L.map (Value.int .i64)) := (by rw [HL.out]; first | (simpa using hownB) | (simpa [Nat.add_comm] using hownB)); obtain ⟨A5, c5, rfl, hc5, hr5⟩ := own_ints hB2; have HR5 := Lib.hid hr5; clear hownB hgB hatB hB2 hr5)
                | (at_builtin; refine wpList_append_any _ rfl _ _ 23 rfl (w4.heap.size + 1) 3 i0 _ 1 8 Tryd.underlying23 HI.out HZ0.out HZ1.out HZ2.out rfl (by decide) _ _ _ rfl HO0.out _ A2 _ c2 _ rfl HX3.out (fun u hu => by obtain ⟨n, _, rfl⟩ := List.mem_map.1 hu; rfl) (by unfold maxLen; first | omega | (simp; done) | (simp; omega)) (by first | omega | (simp; done) | (simp; omega)) (by simp) ?_; intro v1 wA hownA hgA hatA; have HOA := Lib.hid hownA; have hbA : Below (w4.alloc (.cells #[.int .i64 0] 3)).heap.size (w4.alloc (.cells #[.int .i64 0] 3)) wA := HB0.out.grown hgA HLe0.out (fun k hk => Nat.le_of_eq (HSZ.out.trans (Option.some.inj hk))); have HYA := Lib.hid (Reads.below HY2.out hbA); have HGA := Lib.hid hbA; clear hownA hgA hatA hbA))
              ((with_reducible refine (HS2.out _ _ _ (HZ2'.out.next HBB.out) HR5.out).mono ?_); rintro e w5 ⟨rfl, hb5⟩)
              go_wp2_with fail
              go_ret
              exact ⟨rfl, (HBA.out.trans (HBB.out.mono HBA.out.size)).trans (hb5.mono (Nat.le_trans HBA.out.size HBB.out.size))⟩
            · have HDum2 : Hid True := Lib.hid trivial
              have h30l : (L.take 30).length = 30 := by rw [List.length_take]; omega
              have HS2 : Hid (∀ (A5 : Option Addr) (c5 : Nat) (W : World), RInts W A4 Z → RInts W A5 L → Calls Tryd.prog 13 #[.slice A4 Z.length c4, .slice A5 30 c5] W fun e w' => e = .returned (.bool true) ∧ Below W.heap.size W w') := Lib.hid (fun A5 c5 W h1 h2 => by
                have := sameInts_any A4 A5 c4 c5 Z (L.take 30) (by unfold maxLen; omega) (by unfold maxLen; omega) W h1 (rints_take h2 30)
                rwa [h30l, show (Z == L.take 30) = true from by rw [HM.out]; simp] at this)
              clear h30l
              have hmin : min (L.length : Int) 30 = 30 := by omega
              clear HM
              go_wp2_with (first
                | (at_builtin; refine wpList_append_any _ rfl _ _ 23 rfl (w4.heap.size + 1) 3 i0 _ 1 8 Tryd.underlying23 HI.out HZ0.out HZ1.out HZ2.out rfl (by decide) _ _ _ rfl HOA.out _ (some ⟨w4.heap.size, 0, none⟩) _ 1 _ rfl HYA.out (fun u hu => by obtain ⟨n, _, rfl⟩ := List.mem_map.1 hu; rfl) (by unfold maxLen; first | omega | (simp; done) | (simp; omega)) (by first | omega | (simp; done) | (simp; omega)) (by have := HGA.out.size; simp at this ⊢; omega) ?_; intro v2 wB hownB hgB hatB; have HBB := Lib.hid (HGA.out.grown hgB HGA.out.size (fun k hk => Nat.le_trans (Nat.le_of_eq HSZ.out) (HOA.out.lt k hk).1)); have hB2 : wB.ownsRow (w4.heap.size + 1) 3 1 v2 L.length (L.map (Value.int .i64)) := (by rw [HL.out]; first | (simpa using hownB) | (simpa [Nat.add_comm] using hownB)); obtain ⟨A5, c5, rfl, hc5, hr5⟩ := own_ints hB2; have HR5 := Lib.hid hr5; clear hownB hgB hatB hB2 hr5)
                | (at_builtin; refine wpList_append_any _ rfl _ _ 23 rfl (w4.heap.size + 1) 3 i0 _ 1 8 Tryd.underlying23 HI.out HZ0.out HZ1.out HZ2.out rfl (by decide) _ _ _ rfl HO0.out _ A2 _ c2 _ rfl HX3.out (fun u hu => by obtain ⟨n, _, rfl⟩ := List.mem_map.1 hu; rfl) (by unfold maxLen; first | omega | (simp; done) | (simp; omega)) (by first | omega | (simp; done) | (simp; omega)) (by simp) ?_; intro v1 wA hownA hgA hatA; have HOA := Lib.hid hownA; have hbA : Below (w4.alloc (.cells #[.int .i64 0] 3)).heap.size (w4.alloc (.cells #[.int .i64 0] 3)) wA := HB0.out.grown hgA HLe0.out (fun k hk => Nat.le_of_eq (HSZ.out.trans (Option.some.inj hk))); have HYA := Lib.hid (Reads.below HY2.out hbA); have HGA := Lib.hid hbA; clear hownA hgA hatA hbA))
              ((with_reducible refine (HS2.out _ _ _ (HZ2'.out.next HBB.out) HR5.out).mono ?_); rintro e w5 ⟨rfl, hb5⟩)
              go_wp2_with fail
              go_ret
              exact ⟨rfl, (HBA.out.trans (HBB.out.mono HBA.out.size)).trans (hb5.mono (Nat.le_trans HBA.out.size HBB.out.size))⟩
        · have HDum : Hid True := Lib.hid trivial
          have hY0 : ((SY.length : Int) == 0) = false := by have := List.length_pos_iff.2 hY; simp; omega
          clear hY
          have hbe : Below w4.heap.size w4 w4 := Below.refl _ _
          have hbW : Below w4.heap.size w4 w4 := Below.refl _ _
          have hx2 : RInts w4 A2 SX := HRX.out.next hbW
          have hy2 : RInts w4 A3 SY := HRY.out.next hbW
          have hz2 : RInts w4 A4 Z := HRZ.out.next hbW
          have hbA : Below w.heap.size w w4 := HB.out.trans (hbW.mono HB.out.size)
          have HX2 := Lib.hid hx2; have HY2 := Lib.hid hy2; have HZ2' := Lib.hid hz2; have HBA := Lib.hid hbA
          clear hbW hx2 hy2 hz2 hbA hbe HB HRX HRY HRZ
          have hX0 : ((SX.length : Int) == 0) = false := by have := List.length_pos_iff.2 hX; simp; omega
          clear hX
          by_cases hfull : SX.length = 30
          · have HFl := Lib.hid (HFull.out hfull)
            have h30 : ((SX.length : Int) == 30) = true := by simp; omega
            clear hfull
            go_wp2_with fail
            refine (sameInts_any A4 A2 c4 c2 Z SX (by unfold maxLen; omega) (by unfold maxLen; omega) _ HZ2'.out HX2.out).mono ?_
            rintro e w5 ⟨rfl, hb5⟩
            rw [show (Z == SX) = true from by rw [HFl.out]; simp]
            go_wp2_with fail
            go_ret
            exact ⟨rfl, HBA.out.trans (hb5.mono HBA.out.size)⟩
          · have h30 : ((SX.length : Int) == 30) = false := by simp; omega
            have HM := Lib.hid (HMore.out hfull)
            clear hfull
            obtain ⟨L, hL⟩ : ∃ L : List Int, L = SX ++ SY := ⟨_, rfl⟩
            rw [← hL] at HM
            have HL := Lib.hid hL; clear hL
            have hown0 : (w4.alloc (.cells #[] 3)).ownsRow w4.heap.size 3 1 (.slice (some ⟨w4.heap.size, 0, none⟩) 0 0) 0 [] := by simpa using World.ownsRow_lit (e := 3) (size := 1) w4 #[] 0 (Nat.le_refl _) (Nat.zero_le _) rfl
            have hb0 : Below w4.heap.size w4 (w4.alloc (.cells #[] 3)) := (Below.refl _ _).alloc (Nat.le_refl _) _
            have HX3 : Hid (Reads (w4.alloc (.cells #[] 3)) w4.heap.size 1 A2 SX.length (SX.map (Value.int .i64))) := Lib.hid (Reads.below HX2.out hb0)
            have HY3 : Hid (Reads (w4.alloc (.cells #[] 3)) w4.heap.size 1 A3 SY.length (SY.map (Value.int .i64))) := Lib.hid (Reads.below HY2.out hb0)
            have HO0 := Lib.hid hown0; have HB0 := Lib.hid hb0; clear hown0 hb0
            have HLe0 : Hid (w4.heap.size ≤ (w4.alloc (.cells #[] 3)).heap.size) := Lib.hid (by simp)
            have hN : L.length ≤ 30 ∨ 30 < L.length := by omega
            rcases hN with hN | hN
            · have HDum2 : Hid True := Lib.hid trivial
              have HZL : Hid (Z = L) := Lib.hid (by rw [HM.out, List.take_of_length_le hN])
              have HS2 : Hid (∀ (A5 : Option Addr) (c5 : Nat) (W : World), RInts W A4 Z → RInts W A5 L → Calls Tryd.prog 13 #[.slice A4 Z.length c4, .slice A5 L.length c5] W fun e w' => e = .returned (.bool true) ∧ Below W.heap.size W w') := Lib.hid (fun A5 c5 W h1 h2 => by
                have := sameInts_any A4 A5 c4 c5 Z L (by unfold maxLen; omega) (by unfold maxLen; omega) W h1 h2
                rwa [show (Z == L) = true from by rw [HZL.out]; simp] at this)
              have hmin : min (L.length : Int) 30 = (L.length : Int) := by omega
              clear HM
              go_wp2_with (first
                | (at_builtin; refine wpList_append_any _ rfl _ _ 23 rfl w4.heap.size 3 i0 _ 1 8 Tryd.underlying23 HI.out HZ0.out HZ1.out HZ2.out rfl (by decide) _ _ _ rfl HOA.out _ A3 _ c3 _ rfl HYA.out (fun u hu => by obtain ⟨n, _, rfl⟩ := List.mem_map.1 hu; rfl) (by unfold maxLen; first | omega | (simp; done) | (simp; omega)) (by first | omega | (simp; done) | (simp; omega)) (by have := HGA.out.size; simp at this ⊢; omega) ?_; intro v2 wB hownB hgB hatB; have HBB := Lib.hid (HGA.out.grown hgB HGA.out.size (fun k hk => (HOA.out.lt k hk).1)); have hB2 : wB.ownsRow w4.heap.size 3 1 v2 L.length (L.map (Value.int .i64)) := (by rw [HL.out]; first | (simpa using hownB) | (simpa [Nat.add_comm] using hownB)); obtain ⟨A5, c5, rfl, hc5, hr5⟩ := own_ints hB2; have HR5 := Lib.hid hr5; clear hownB hgB hatB hB2 hr5)
                | (at_builtin; refine wpList_append_any _ rfl _ _ 23 rfl w4.heap.size 3 i0 _ 1 8 Tryd.underlying23 HI.out HZ0.out HZ1.out HZ2.out rfl (by decide) _ _ _ rfl HO0.out _ A2 _ c2 _ rfl HX3.out (fun u hu => by obtain ⟨n, _, rfl⟩ := List.mem_map.1 hu; rfl) (by unfold maxLen; first | omega | (simp; done) | (simp; omega)) (by first | omega | (simp; done) | (simp; omega)) (by simp) ?_; intro v1 wA hownA hgA hatA; have HOA := Lib.hid hownA; have hbA : Below w4.heap.size w4 wA := HB0.out.grown hgA HLe0.out (fun k hk => Nat.le_of_eq (Option.some.inj hk)); have HYA := Lib.hid (Reads.below HY2.out hbA); have HGA := Lib.hid hbA; clear hownA hgA hatA hbA))
              ((with_reducible refine (HS2.out _ _ _ (HZ2'.out.next HBB.out) HR5.out).mono ?_); rintro e w5 ⟨rfl, hb5⟩)
              go_wp2_with fail
              go_ret
              exact ⟨rfl, (HBA.out.trans (HBB.out.mono HBA.out.size)).trans (hb5.mono (Nat.le_trans HBA.out.size HBB.out.size))⟩
            · have HDum2 : Hid True := Lib.hid trivial
              have h30l : (L.take 30).length = 30 := by rw [List.length_take]; omega
              have HS2 : Hid (∀ (A5 : Option Addr) (c5 : Nat) (W : World), RInts W A4 Z → RInts W A5 L → Calls Tryd.prog 13 #[.slice A4 Z.length c4, .slice A5 30 c5] W fun e w' => e = .returned (.bool true) ∧ Below W.heap.size W w') := Lib.hid (fun A5 c5 W h1 h2 => by
                have := sameInts_any A4 A5 c4 c5 Z (L.take 30) (by unfold maxLen; omega) (by unfold maxLen; omega) W h1 (rints_take h2 30)
                rwa [h30l, show (Z == L.take 30) = true from by rw [HM.out]; simp] at this)
              clear h30l
              have hmin : min (L.length : Int) 30 = 30 := by omega
              clear HM
              go_wp2_with (first
                | (at_builtin; refine wpList_append_any _ rfl _ _ 23 rfl w4.heap.size 3 i0 _ 1 8 Tryd.underlying23 HI.out HZ0.out HZ1.out HZ2.out rfl (by decide) _ _ _ rfl HOA.out _ A3 _ c3 _ rfl HYA.out (fun u hu => by obtain ⟨n, _, rfl⟩ := List.mem_map.1 hu; rfl) (by unfold maxLen; first | omega | (simp; done) | (simp; omega)) (by first | omega | (simp; done) | (simp; omega)) (by have := HGA.out.size; simp at this ⊢; omega) ?_; intro v2 wB hownB hgB hatB; have HBB := Lib.hid (HGA.out.grown hgB HGA.out.size (fun k hk => (HOA.out.lt k hk).1)); have hB2 : wB.ownsRow w4.heap.size 3 1 v2 L.length (L.map (Value.int .i64)) := (by rw [HL.out]; first | (simpa using hownB) | (simpa [Nat.add_comm] using hownB)); obtain ⟨A5, c5, rfl, hc5, hr5⟩ := own_ints hB2; have HR5 := Lib.hid hr5; clear hownB hgB hatB hB2 hr5)
                | (at_builtin; refine wpList_append_any _ rfl _ _ 23 rfl w4.heap.size 3 i0 _ 1 8 Tryd.underlying23 HI.out HZ0.out HZ1.out HZ2.out rfl (by decide) _ _ _ rfl HO0.out _ A2 _ c2 _ rfl HX3.out (fun u hu => by obtain ⟨n, _, rfl⟩ := List.mem_map.1 hu; rfl) (by unfold maxLen; first | omega | (simp; done) | (simp; omega)) (by first | omega | (simp; done) | (simp; omega)) (by simp) ?_; intro v1 wA hownA hgA hatA; have HOA := Lib.hid hownA; have hbA : Below w4.heap.size w4 wA := HB0.out.grown hgA HLe0.out (fun k hk => Nat.le_of_eq (Option.some.inj hk)); have HYA := Lib.hid (Reads.below HY2.out hbA); have HGA := Lib.hid hbA; clear hownA hgA hatA hbA))
              ((with_reducible refine (HS2.out _ _ _ (HZ2'.out.next HBB.out) HR5.out).mono ?_); rintro e w5 ⟨rfl, hb5⟩)
              go_wp2_with fail
              go_ret
              exact ⟨rfl, (HBA.out.trans (HBB.out.mono HBA.out.size)).trans (hb5.mono (Nat.le_trans HBA.out.size HBB.out.size))⟩

/-- What the walk gives, for every argument and every world that holds the table. -/
theorem contract (H : Type) (enc : TypeId × Value → H) (W : World) (base : Nat) (args : Array Value) (ds gs : List (DataW H)) (before : List MemPlace)
    (hval : ∀ (j : Nat) t v, Tryd.f8.params[j]? = some t → args[j]? = some v → Value.okWide Tryd.prog W .any base t v)
    (hW : DataW.Whole enc Tryd.prog Tryd.f8.params.toList Rows.paramFieldsSpec.vars false W args.toList ds gs before) (hL : laidMetH Tryd.prog Rows.paramFieldsRow.laid W)
    (hreach : (DataW.weightsEach Tryd.prog (Tryd.f8.params.toList ++ []) (ds ++ gs)).all (· ≤ reachBytes) = true) :
    Calls Tryd.prog 8 args W fun e W' => ∃ v, e = .returned v ∧ Rows.paramFieldsSpec.post enc Tryd.prog Tryd.f8 false true false false W args v W' := by
  have hW' := hW
  have ht := ten_of hL
  have hlts : ∀ x ∈ before, x.block < W.heap.size := fun x hx => hW'.lt x hx
  obtain ⟨p, q, hA0, hV, rfl, hfz, hnd⟩ := hW
  have hA : DataW.TrodAll enc Tryd.prog W 0 (fun _ => true) true Tryd.f8.params.toList args.toList ds p := hA0
  rw [Tryd.params8] at hA hval hreach
  obtain ⟨v0, vs0, d0, ds0, p0, q0, hargs, rfl, rfl, h0, r0⟩ := trodAll_cons hA
  obtain ⟨v1, vs1, d1, ds1, p1, q1, rfl, rfl, rfl, h1, r1⟩ := trodAll_cons r0
  obtain ⟨rfl, rfl, rfl⟩ := trodAll_nil r1
  obtain rfl : args = #[v0, v1] := by cases args; simp_all
  obtain ⟨rfl, rfl⟩ := trodVars_none hV
  obtain ⟨s0, rfl, rfl, rfl, hs0⟩ := open_string Tryd.underlying9 (hval 0 9 v0 rfl rfl) h0
  obtain ⟨s1, rfl, rfl, rfl, hs1⟩ := open_string Tryd.underlying9 (hval 1 9 v1 rfl rfl) h1
  clear hA0
  refine (walk s0 hs0 s1 hs1 W ht).mono fun e W' ⟨he, hb⟩ => ?_
  subst he
  exact ⟨_, rfl, post_law laidOut (by kernel_rfl) (by kernel_rfl) rfl hW' rfl hb⟩

theorem laid_met (os : Os) : laidMet Tryd.prog Rows.paramFieldsRow.laid ((laidWorld os).forCall (fun _ _ => 0) ⟨#[], #[Value.string ⟨#[]⟩, Value.string ⟨#[]⟩], []⟩).memory :=
  laidMet_of_run' 8 (by kernel_rfl) (by kernel_rfl)
theorem reads (os : Os) {H : Type} (enc : TypeId × Value → H) : ∃ places, DataW.whole enc Tryd.prog ((laidWorld os).forCall (fun _ _ => 0) ⟨#[], #[Value.string ⟨#[]⟩, Value.string ⟨#[]⟩], []⟩).memory Tryd.f8.params.toList Rows.paramFieldsSpec.vars false (#[Value.string ⟨#[]⟩, Value.string ⟨#[]⟩] : Array Value).toList 8 = some ([.lit (.string []), .lit (.string [])], [], places) :=
  ⟨[], by kernel_rfl⟩

set_option maxRecDepth 100000 in
theorem lifted (os : Os) (started : os.Started) (H : Type) (enc : TypeId × Value → H) (F : Stop.Interp) :
    ReturnsInHanded {} Tryd.checked os 8 .any ((OpenSpec.ofChange Rows.paramFieldsSpec).preRow enc Tryd.prog Tryd.f8 Rows.paramFieldsRow.domain false Rows.paramFieldsRow.laid) (((OpenSpec.ofChange Rows.paramFieldsSpec).at F).post enc Tryd.prog Tryd.f8 false true false false) := by
  obtain ⟨places, hx⟩ := reads os enc
  refine returnsInHanded_of_row (C := Tryd.checked) (s := OpenSpec.ofChange Rows.paramFieldsSpec) own started (by kernel_rfl) Tryd.func8
    (witness_row_at (enc := enc) (C := Tryd.checked) false (laidWorld os) #[Value.string ⟨#[]⟩, Value.string ⟨#[]⟩] rfl (by kernel_rfl) (by kernel_rfl) (by kernel_rfl)
      (OpenSpec.preRow_of_cond 8 hx (by kernel_rfl) (fun k hk => by cases hk) (by kernel_rfl) (laid_met os))) ?_
  intro W base args ds gs before hval hW _ _ hreach hL _ _
  exact contract H enc W base args ds gs before hval hW hL hreach

theorem said : Rows.ParamFieldsSaid :=
  OpenClaim.holds_of_cond 8 Tryd.f8 rfl rfl rfl rfl rfl rfl rfl ⟨rfl, rfl, rfl, rfl, rfl⟩ rfl rfl rfl rfl rfl (by kernel_rfl) Tryd.func8 (by kernel_rfl)
    (of_decide_eq_true (by kernel_rfl)) (by unfold Func.isWrapper; first | (rw [if_pos (by decide +kernel)]; kernel_rfl) | (rw [if_neg (by decide +kernel)]; exact ⟨rfl, rfl⟩))
    (fun os started H enc _ F => by rw [OpenClaim.pre_eq_preRow]; exact lifted os started H enc F)

theorem plain (f : FuncId) (fn : Func) (hf : Tryd.pinned.checked.prog.funcNamed "phosphor/phosphorlaw04.ParamFields" = some f) (hfn : Tryd.pinned.checked.prog.funcs[f]? = some fn) :
    false = Tryd.pinned.checked.prog.looks [] ∧ ∀ (j : Nat) t, fn.params[j]? = some t → Tryd.pinned.checked.prog.wantsStandIn t = false := by
  obtain rfl : f = 8 := Option.some.inj ((show Tryd.prog.funcNamed "phosphor/phosphorlaw04.ParamFields" = some 8 by kernel_rfl).symm.trans hf) |>.symm
  obtain rfl : fn = Tryd.f8 := (Option.some.inj (Tryd.func8.symm.trans hfn)).symm
  refine ⟨by kernel_rfl, fun j t ht => ?_⟩
  rw [Tryd.params8] at ht
  have hm : t ∈ [9, 9] := by simpa using Array.mem_of_getElem? ht
  have hall : ([9, 9].all fun u => !Tryd.prog.wantsStandIn u) = true := by kernel_rfl
  exact (show Tryd.prog.wantsStandIn t = false by simpa using List.all_eq_true.1 hall t hm)

/-- The card. -/
theorem card : Rows.ParamFieldsCardSaid :=
  Claim7.holds_tied_plain_at .later [] _ _ _ _ said (fun _ h => by cases h) (by kernel_rfl) (fun _ h => by cases h) paramFields_row_tie rfl ⟨rfl, rfl⟩ (by kernel_rfl) rfl plain (by kernel_rfl)
#print axioms card
end Go.Proofs.YtigifjbgjcnlaaaDoor.paramFields

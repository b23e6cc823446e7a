/-
  PhosphorKept holds, whatever the input: the card of the statement, with the library's three tables and its two errors tied to the program's text.
-/
import Derived.Test.YtnbbepkkedhhgaaDoorCards
import Derived.Test.YtnbbepkkedhhgaaDoorTie
import Derived.Test.YtnbbepkkedhhgaaDoorFrameH
import Derived.Test.YtnbbepkkedhhgaaDoorStoG
import Derived.Test.YtnbbepkkedhhgaaDoorMacG
import Derived.Test.YtnbbepkkedhhgaaDoorFrameSt
namespace Go.Proofs.YtnbbepkkedhhgaaDoor.phosphorKept
open Go.ChangeShapes Go.WideShapes Go.ChangeAt Go.RowKit
open Go.ChangeMaps (open_string)

set_option maxRecDepth 100000 in
set_option maxHeartbeats 16000000 in
theorem walk (A : Option Addr) (cap : Nat) (ts : List ByteArray) (_hm : ts.length ≤ maxLen) (hsz : ∀ s ∈ ts, s.size ≤ maxLen) (hx : Bool) (w : World) (_ht : Ten w) (he : ErrS w) (hri : RSt w A ts) :
    Calls Tryd.prog 4 #[.slice A ts.length cap, .bool hx] w fun e w' => e = .returned (.bool true) ∧ Below w.heap.size w w' := by
  have HE := Lib.hid he
  have HR := Lib.hid hri
  clear he hri
  go_enter Tryd.func4, Tryd.ntmps4
  --#1
  go_wp2_with fail
  have HS0 : StoB (w.alloc (.cells #[.map none] 26)) w.heap.size none 0 (.map []) := ⟨Blk.new _ _ _, .inl ⟨rfl, rfl⟩⟩
  obtain ⟨S, hS⟩ : ∃ S, w.heap.size = S := ⟨_, rfl⟩
  have HB2 := Lib.hid (show Below w.heap.size w (w.alloc (.cells #[.map none] 26)) from (Below.refl _ _).alloc (Nat.le_refl _) _)
  have hSB : w.heap.size ≤ S := by rw [← hS]; exact Nat.le_refl _
  have HS := Lib.hid (show StoB (w.alloc (.cells #[.map none] 26)) S none 0 (.map []) from hS ▸ HS0)
  obtain ⟨w2, hw2⟩ : ∃ w2, w.alloc (.cells #[.map none] 26) = w2 := ⟨_, rfl⟩
  rw [hw2] at HB2 HS ⊢
  have hS2 : (⟨w.heap.size, 0, none⟩ : Addr) = ⟨S, 0, none⟩ := by rw [hS]
  rw [hS2]
  clear HS0 hw2 hS2
  --#2
  go_loopw [6, 7] (fun su i wr => ∃ (k T : Nat) (m : Option Nat) (D : DataW Unit), i = .int .i64 k ∧ su = .int .i64 (6144 - (T : Int)) ∧ k ≤ ts.length ∧ k ≤ 64 ∧ tot D = T ∧ T ≤ 6144 ∧ StoB wr S m k D ∧ FarMap w.heap.size m ∧ (∀ j : Int, (k : Int) ≤ j → Maps.has D (kz j) = false) ∧ Below w.heap.size w wr) (fun _ i _ => 64 - (intOf i).toNat)
  case atStart => exact ⟨0, 0, none, .map [], rfl, rfl, Nat.zero_le _, by omega, rfl, by omega, HS.out, (fun b e => by cases e), (fun j _ => rfl), HB2.out⟩
  case round =>
    obtain ⟨k, T, m, D, rfl, rfl, hk, hk64, hT, hT6, hsto, hfar, hno, hbw⟩ := hrel
    have HST := Lib.hid hsto
    have HFM := Lib.hid hfar
    have HNO := Lib.hid hno
    have HBW := Lib.hid hbw
    clear hsto hfar hno hbw HS HB2 hS
    by_cases hkn : k < ts.length
    · have c1 : (k : Int) < (ts.length : Int) := by omega
      by_cases hk6 : k < 64
      · have c2 : (k : Int) < 64 := by omega
        obtain ⟨ad, rfl, had, cx⟩ := (HR.out.next HBW.out).at_ hkn
        have hsx := hsz ts[k] (List.getElem_mem hkn)
        obtain ⟨x, hxe⟩ : ∃ x, ts[k] = x := ⟨_, rfl⟩
        rw [hxe] at cx hsx
        unfold maxLen at hsx
        clear hxe hsz
        by_cases hlong : 7000 < x.size
        · have c3 : (7000 : Int) < (x.size : Int) := by omega
          have c4 : (7000 : Int) ≤ (x.size : Int) := by omega
          obtain ⟨t2, ht2⟩ : ∃ t2, x.extract 0 7000 = t2 := ⟨_, rfl⟩
          have hn7 : t2.size ≤ 7000 := by rw [← ht2, ByteArray.size_extract]; omega
          cases hx
          · have HB4 := HBW
            have HS4 := HST
            have HD := Lib.hid (defineM_any S m k D k (by omega) false false t2 (by omega) (by omega) wr HS4.out (by omega) (HE.out.next HB4.out))
            rw [defD_plain D k (by omega) (by omega) (HNO.out k (Int.le_refl _)) t2, hT] at HD
            go_wp2_with fail
            have htidy := HS4.out.2.tidy
            by_cases hfit : t2.size ≤ 6144 - T
            · rw [if_pos hfit] at HD
              refine HD.out.mono ?_
              rintro e w5 ⟨rfl, ⟨m5, hs5, hsn⟩, ho⟩
              have ht5 : tot (putD D k t2) = T + t2.size := by
                have := putD_tot D htidy k t2
                rw [txAt_none D k (HNO.out k (Int.le_refl _)), hT] at this
                omega
              obtain ⟨hta, hth⟩ := putD_at D htidy.isMap k t2
              have HG := Lib.hid (getM_any S m5 (k + 1) (putD D k t2) k (by omega) w5 hs5)
              rw [hta, hth] at HG
              have HN5 := Lib.hid (show ∀ j : Int, ((k + 1 : Nat) : Int) ≤ j → Maps.has (putD D k t2) (kz j) = false from fun j hj => by rw [putD_has D k j _ (by omega)]; exact HNO.out j (by omega))
              have HB5 := Lib.hid (HB4.out.trans (ho.below HB4.out.size (own_far hSB HFM.out)))
              have HS5 := Lib.hid hs5
              have HF5 := Lib.hid (HFM.out.same hsn HB4.out.size)
              have HT5 := Lib.hid ht5
              have g6 : (t2.size : Int) ≤ 6144 - (T : Int) := by omega
              have hw1 : IntKind.i64.wrap (6144 - (T : Int) - (t2.size : Int)) = 6144 - ((T + t2.size : Nat) : Int) := by rw [IntWalk.i64_in _ (by omega)]; omega
              have hw3 : IntKind.i64.wrap ((k : Int) + 1) = (k : Int) + 1 := IntWalk.i64_in _ (by omega)
              clear hs5 hsn ho HD ht5 HNO HFM HS4 hta hth htidy
              go_wp2_with fail
              refine HG.out.mono ?_
              rintro e w6 ⟨rfl, hb6⟩
              have HB6 := Lib.hid (HB5.out.trans (hb6.mono HB5.out.size))
              have HS6 := Lib.hid (HS5.out.next hb6)
              clear hb6 HG
              have hbq : (t2.toList != t2.toList) = false := by simp
              by_cases hz : t2.size = 0
              · have hz1 : decide (t2.size ≠ 0) = false := by simp [hz]
                have hz2 : t2.toList.isEmpty = true := by rw [str_mt]; simp [hz]
                rw [hz1]
                go_wp2_with fail
                go_roundw
                case rel => exact ⟨k + 1, T + t2.size, m5, putD D k t2, by first | rfl | go_num, by first | rfl | go_num, by omega, by omega, HT5.out, by omega, HS6.out, HF5.out, HN5.out, HB6.out⟩
                case measure => simp [intOf]; omega
              · have hz1 : decide (t2.size ≠ 0) = true := by simp [hz]
                have hz2 : t2.toList.isEmpty = false := by rw [str_mt]; simp [hz]
                rw [hz1]
                go_wp2_with fail
                go_roundw
                case rel => exact ⟨k + 1, T + t2.size, m5, putD D k t2, by first | rfl | go_num, by first | rfl | go_num, by omega, by omega, HT5.out, by omega, HS6.out, HF5.out, HN5.out, HB6.out⟩
                case measure => simp [intOf]; omega
            · rw [if_neg hfit] at HD
              refine HD.out.mono ?_
              rintro e w5 ⟨rfl, ⟨m5, hs5, hsn⟩, ho⟩
              have HG := Lib.hid (getM_any S m5 (k + 1) D k (by omega) w5 hs5)
              rw [HNO.out k (Int.le_refl _)] at HG
              have HN5 := Lib.hid (show ∀ j : Int, ((k + 1 : Nat) : Int) ≤ j → Maps.has D (kz j) = false from fun j hj => HNO.out j (by omega))
              have HB5 := Lib.hid (HB4.out.trans (ho.below HB4.out.size (own_far hSB HFM.out)))
              have HS5 := Lib.hid hs5
              have HF5 := Lib.hid (HFM.out.same hsn HB4.out.size)
              have g6 : ¬ (t2.size : Int) ≤ 6144 - (T : Int) := by omega
              have hw3 : IntKind.i64.wrap ((k : Int) + 1) = (k : Int) + 1 := IntWalk.i64_in _ (by omega)
              clear hs5 hsn ho HD HNO HFM HS4 htidy
              go_wp2_with fail
              refine HG.out.mono ?_
              rintro e w6 ⟨rfl, hb6⟩
              have HB6 := Lib.hid (HB5.out.trans (hb6.mono HB5.out.size))
              have HS6 := Lib.hid (HS5.out.next hb6)
              clear hb6 HG
              go_wp2_with fail
              go_roundw
              case rel => exact ⟨k + 1, T, m5, D, by first | rfl | go_num, by first | rfl | go_num, by omega, by omega, hT, by omega, HS6.out, HF5.out, HN5.out, HB6.out⟩
              case measure => simp [intOf]; omega
          · have HX := Lib.hid (hexS_any t2 (by omega) wr)
            go_wp2_with fail
            refine HX.out.mono ?_
            rintro e w4 ⟨rfl, hb4⟩
            have HB4 := Lib.hid (HBW.out.trans (hb4.mono HBW.out.size))
            have HS4 := Lib.hid (HST.out.next hb4)
            have HD := Lib.hid (defineM_any S m k D k (by omega) false true (bstr (hexL (natL t2.data.toList))) (by rw [bstr_size, hex_len, natB_len]; omega) (by omega) w4 HS4.out (by omega) (HE.out.next HB4.out))
            rw [defD_hex D k (by omega) (by omega) (HNO.out k (Int.le_refl _)) t2, hT] at HD
            generalize bstr (hexL (natL t2.data.toList)) = dx at *
            clear hb4 HX
            go_wp2_with fail
            have htidy := HS4.out.2.tidy
            by_cases hfit : t2.size ≤ 6144 - T
            · rw [if_pos hfit] at HD
              refine HD.out.mono ?_
              rintro e w5 ⟨rfl, ⟨m5, hs5, hsn⟩, ho⟩
              have ht5 : tot (putD D k t2) = T + t2.size := by
                have := putD_tot D htidy k t2
                rw [txAt_none D k (HNO.out k (Int.le_refl _)), hT] at this
                omega
              obtain ⟨hta, hth⟩ := putD_at D htidy.isMap k t2
              have HG := Lib.hid (getM_any S m5 (k + 1) (putD D k t2) k (by omega) w5 hs5)
              rw [hta, hth] at HG
              have HN5 := Lib.hid (show ∀ j : Int, ((k + 1 : Nat) : Int) ≤ j → Maps.has (putD D k t2) (kz j) = false from fun j hj => by rw [putD_has D k j _ (by omega)]; exact HNO.out j (by omega))
              have HB5 := Lib.hid (HB4.out.trans (ho.below HB4.out.size (own_far hSB HFM.out)))
              have HS5 := Lib.hid hs5
              have HF5 := Lib.hid (HFM.out.same hsn HB4.out.size)
              have HT5 := Lib.hid ht5
              have g6 : (t2.size : Int) ≤ 6144 - (T : Int) := by omega
              have hw1 : IntKind.i64.wrap (6144 - (T : Int) - (t2.size : Int)) = 6144 - ((T + t2.size : Nat) : Int) := by rw [IntWalk.i64_in _ (by omega)]; omega
              have hw3 : IntKind.i64.wrap ((k : Int) + 1) = (k : Int) + 1 := IntWalk.i64_in _ (by omega)
              clear hs5 hsn ho HD ht5 HNO HFM HS4 hta hth htidy
              go_wp2_with fail
              refine HG.out.mono ?_
              rintro e w6 ⟨rfl, hb6⟩
              have HB6 := Lib.hid (HB5.out.trans (hb6.mono HB5.out.size))
              have HS6 := Lib.hid (HS5.out.next hb6)
              clear hb6 HG
              have hbq : (t2.toList != t2.toList) = false := by simp
              by_cases hz : t2.size = 0
              · have hz1 : decide (t2.size ≠ 0) = false := by simp [hz]
                have hz2 : t2.toList.isEmpty = true := by rw [str_mt]; simp [hz]
                rw [hz1]
                go_wp2_with fail
                go_roundw
                case rel => exact ⟨k + 1, T + t2.size, m5, putD D k t2, by first | rfl | go_num, by first | rfl | go_num, by omega, by omega, HT5.out, by omega, HS6.out, HF5.out, HN5.out, HB6.out⟩
                case measure => simp [intOf]; omega
              · have hz1 : decide (t2.size ≠ 0) = true := by simp [hz]
                have hz2 : t2.toList.isEmpty = false := by rw [str_mt]; simp [hz]
                rw [hz1]
                go_wp2_with fail
                go_roundw
                case rel => exact ⟨k + 1, T + t2.size, m5, putD D k t2, by first | rfl | go_num, by first | rfl | go_num, by omega, by omega, HT5.out, by omega, HS6.out, HF5.out, HN5.out, HB6.out⟩
                case measure => simp [intOf]; omega
            · rw [if_neg hfit] at HD
              refine HD.out.mono ?_
              rintro e w5 ⟨rfl, ⟨m5, hs5, hsn⟩, ho⟩
              have HG := Lib.hid (getM_any S m5 (k + 1) D k (by omega) w5 hs5)
              rw [HNO.out k (Int.le_refl _)] at HG
              have HN5 := Lib.hid (show ∀ j : Int, ((k + 1 : Nat) : Int) ≤ j → Maps.has D (kz j) = false from fun j hj => HNO.out j (by omega))
              have HB5 := Lib.hid (HB4.out.trans (ho.below HB4.out.size (own_far hSB HFM.out)))
              have HS5 := Lib.hid hs5
              have HF5 := Lib.hid (HFM.out.same hsn HB4.out.size)
              have g6 : ¬ (t2.size : Int) ≤ 6144 - (T : Int) := by omega
              have hw3 : IntKind.i64.wrap ((k : Int) + 1) = (k : Int) + 1 := IntWalk.i64_in _ (by omega)
              clear hs5 hsn ho HD HNO HFM HS4 htidy
              go_wp2_with fail
              refine HG.out.mono ?_
              rintro e w6 ⟨rfl, hb6⟩
              have HB6 := Lib.hid (HB5.out.trans (hb6.mono HB5.out.size))
              have HS6 := Lib.hid (HS5.out.next hb6)
              clear hb6 HG
              go_wp2_with fail
              go_roundw
              case rel => exact ⟨k + 1, T, m5, D, by first | rfl | go_num, by first | rfl | go_num, by omega, by omega, hT, by omega, HS6.out, HF5.out, HN5.out, HB6.out⟩
              case measure => simp [intOf]; omega
        · have c3 : ¬ (7000 : Int) < (x.size : Int) := by omega
          obtain ⟨t2, ht2⟩ : ∃ t2, x = t2 := ⟨_, rfl⟩
          have hn7 : t2.size ≤ 7000 := by rw [← ht2]; omega
          subst ht2
          cases hx
          · have HB4 := HBW
            have HS4 := HST
            have HD := Lib.hid (defineM_any S m k D k (by omega) false false x (by omega) (by omega) wr HS4.out (by omega) (HE.out.next HB4.out))
            rw [defD_plain D k (by omega) (by omega) (HNO.out k (Int.le_refl _)) x, hT] at HD
            go_wp2_with fail
            have htidy := HS4.out.2.tidy
            by_cases hfit : x.size ≤ 6144 - T
            · rw [if_pos hfit] at HD
              refine HD.out.mono ?_
              rintro e w5 ⟨rfl, ⟨m5, hs5, hsn⟩, ho⟩
              have ht5 : tot (putD D k x) = T + x.size := by
                have := putD_tot D htidy k x
                rw [txAt_none D k (HNO.out k (Int.le_refl _)), hT] at this
                omega
              obtain ⟨hta, hth⟩ := putD_at D htidy.isMap k x
              have HG := Lib.hid (getM_any S m5 (k + 1) (putD D k x) k (by omega) w5 hs5)
              rw [hta, hth] at HG
              have HN5 := Lib.hid (show ∀ j : Int, ((k + 1 : Nat) : Int) ≤ j → Maps.has (putD D k x) (kz j) = false from fun j hj => by rw [putD_has D k j _ (by omega)]; exact HNO.out j (by omega))
              have HB5 := Lib.hid (HB4.out.trans (ho.below HB4.out.size (own_far hSB HFM.out)))
              have HS5 := Lib.hid hs5
              have HF5 := Lib.hid (HFM.out.same hsn HB4.out.size)
              have HT5 := Lib.hid ht5
              have g6 : (x.size : Int) ≤ 6144 - (T : Int) := by omega
              have hw1 : IntKind.i64.wrap (6144 - (T : Int) - (x.size : Int)) = 6144 - ((T + x.size : Nat) : Int) := by rw [IntWalk.i64_in _ (by omega)]; omega
              have hw3 : IntKind.i64.wrap ((k : Int) + 1) = (k : Int) + 1 := IntWalk.i64_in _ (by omega)
              clear hs5 hsn ho HD ht5 HNO HFM HS4 hta hth htidy
              go_wp2_with fail
              refine HG.out.mono ?_
              rintro e w6 ⟨rfl, hb6⟩
              have HB6 := Lib.hid (HB5.out.trans (hb6.mono HB5.out.size))
              have HS6 := Lib.hid (HS5.out.next hb6)
              clear hb6 HG
              have hbq : (x.toList != x.toList) = false := by simp
              by_cases hz : x.size = 0
              · have hz1 : decide (x.size ≠ 0) = false := by simp [hz]
                have hz2 : x.toList.isEmpty = true := by rw [str_mt]; simp [hz]
                rw [hz1]
                go_wp2_with fail
                go_roundw
                case rel => exact ⟨k + 1, T + x.size, m5, putD D k x, by first | rfl | go_num, by first | rfl | go_num, by omega, by omega, HT5.out, by omega, HS6.out, HF5.out, HN5.out, HB6.out⟩
                case measure => simp [intOf]; omega
              · have hz1 : decide (x.size ≠ 0) = true := by simp [hz]
                have hz2 : x.toList.isEmpty = false := by rw [str_mt]; simp [hz]
                rw [hz1]
                go_wp2_with fail
                go_roundw
                case rel => exact ⟨k + 1, T + x.size, m5, putD D k x, by first | rfl | go_num, by first | rfl | go_num, by omega, by omega, HT5.out, by omega, HS6.out, HF5.out, HN5.out, HB6.out⟩
                case measure => simp [intOf]; omega
            · rw [if_neg hfit] at HD
              refine HD.out.mono ?_
              rintro e w5 ⟨rfl, ⟨m5, hs5, hsn⟩, ho⟩
              have HG := Lib.hid (getM_any S m5 (k + 1) D k (by omega) w5 hs5)
              rw [HNO.out k (Int.le_refl _)] at HG
              have HN5 := Lib.hid (show ∀ j : Int, ((k + 1 : Nat) : Int) ≤ j → Maps.has D (kz j) = false from fun j hj => HNO.out j (by omega))
              have HB5 := Lib.hid (HB4.out.trans (ho.below HB4.out.size (own_far hSB HFM.out)))
              have HS5 := Lib.hid hs5
              have HF5 := Lib.hid (HFM.out.same hsn HB4.out.size)
              have g6 : ¬ (x.size : Int) ≤ 6144 - (T : Int) := by omega
              have hw3 : IntKind.i64.wrap ((k : Int) + 1) = (k : Int) + 1 := IntWalk.i64_in _ (by omega)
              clear hs5 hsn ho HD HNO HFM HS4 htidy
              go_wp2_with fail
              refine HG.out.mono ?_
              rintro e w6 ⟨rfl, hb6⟩
              have HB6 := Lib.hid (HB5.out.trans (hb6.mono HB5.out.size))
              have HS6 := Lib.hid (HS5.out.next hb6)
              clear hb6 HG
              go_wp2_with fail
              go_roundw
              case rel => exact ⟨k + 1, T, m5, D, by first | rfl | go_num, by first | rfl | go_num, by omega, by omega, hT, by omega, HS6.out, HF5.out, HN5.out, HB6.out⟩
              case measure => simp [intOf]; omega
          · have HX := Lib.hid (hexS_any x (by omega) wr)
            go_wp2_with fail
            refine HX.out.mono ?_
            rintro e w4 ⟨rfl, hb4⟩
            have HB4 := Lib.hid (HBW.out.trans (hb4.mono HBW.out.size))
            have HS4 := Lib.hid (HST.out.next hb4)
            have HD := Lib.hid (defineM_any S m k D k (by omega) false true (bstr (hexL (natL x.data.toList))) (by rw [bstr_size, hex_len, natB_len]; omega) (by omega) w4 HS4.out (by omega) (HE.out.next HB4.out))
            rw [defD_hex D k (by omega) (by omega) (HNO.out k (Int.le_refl _)) x, hT] at HD
            generalize bstr (hexL (natL x.data.toList)) = dx at *
            clear hb4 HX
            go_wp2_with fail
            have htidy := HS4.out.2.tidy
            by_cases hfit : x.size ≤ 6144 - T
            · rw [if_pos hfit] at HD
              refine HD.out.mono ?_
              rintro e w5 ⟨rfl, ⟨m5, hs5, hsn⟩, ho⟩
              have ht5 : tot (putD D k x) = T + x.size := by
                have := putD_tot D htidy k x
                rw [txAt_none D k (HNO.out k (Int.le_refl _)), hT] at this
                omega
              obtain ⟨hta, hth⟩ := putD_at D htidy.isMap k x
              have HG := Lib.hid (getM_any S m5 (k + 1) (putD D k x) k (by omega) w5 hs5)
              rw [hta, hth] at HG
              have HN5 := Lib.hid (show ∀ j : Int, ((k + 1 : Nat) : Int) ≤ j → Maps.has (putD D k x) (kz j) = false from fun j hj => by rw [putD_has D k j _ (by omega)]; exact HNO.out j (by omega))
              have HB5 := Lib.hid (HB4.out.trans (ho.below HB4.out.size (own_far hSB HFM.out)))
              have HS5 := Lib.hid hs5
              have HF5 := Lib.hid (HFM.out.same hsn HB4.out.size)
              have HT5 := Lib.hid ht5
              have g6 : (x.size : Int) ≤ 6144 - (T : Int) := by omega
              have hw1 : IntKind.i64.wrap (6144 - (T : Int) - (x.size : Int)) = 6144 - ((T + x.size : Nat) : Int) := by rw [IntWalk.i64_in _ (by omega)]; omega
              have hw3 : IntKind.i64.wrap ((k : Int) + 1) = (k : Int) + 1 := IntWalk.i64_in _ (by omega)
              clear hs5 hsn ho HD ht5 HNO HFM HS4 hta hth htidy
              go_wp2_with fail
              refine HG.out.mono ?_
              rintro e w6 ⟨rfl, hb6⟩
              have HB6 := Lib.hid (HB5.out.trans (hb6.mono HB5.out.size))
              have HS6 := Lib.hid (HS5.out.next hb6)
              clear hb6 HG
              have hbq : (x.toList != x.toList) = false := by simp
              by_cases hz : x.size = 0
              · have hz1 : decide (x.size ≠ 0) = false := by simp [hz]
                have hz2 : x.toList.isEmpty = true := by rw [str_mt]; simp [hz]
                rw [hz1]
                go_wp2_with fail
                go_roundw
                case rel => exact ⟨k + 1, T + x.size, m5, putD D k x, by first | rfl | go_num, by first | rfl | go_num, by omega, by omega, HT5.out, by omega, HS6.out, HF5.out, HN5.out, HB6.out⟩
                case measure => simp [intOf]; omega
              · have hz1 : decide (x.size ≠ 0) = true := by simp [hz]
                have hz2 : x.toList.isEmpty = false := by rw [str_mt]; simp [hz]
                rw [hz1]
                go_wp2_with fail
                go_roundw
                case rel => exact ⟨k + 1, T + x.size, m5, putD D k x, by first | rfl | go_num, by first | rfl | go_num, by omega, by omega, HT5.out, by omega, HS6.out, HF5.out, HN5.out, HB6.out⟩
                case measure => simp [intOf]; omega
            · rw [if_neg hfit] at HD
              refine HD.out.mono ?_
              rintro e w5 ⟨rfl, ⟨m5, hs5, hsn⟩, ho⟩
              have HG := Lib.hid (getM_any S m5 (k + 1) D k (by omega) w5 hs5)
              rw [HNO.out k (Int.le_refl _)] at HG
              have HN5 := Lib.hid (show ∀ j : Int, ((k + 1 : Nat) : Int) ≤ j → Maps.has D (kz j) = false from fun j hj => HNO.out j (by omega))
              have HB5 := Lib.hid (HB4.out.trans (ho.below HB4.out.size (own_far hSB HFM.out)))
              have HS5 := Lib.hid hs5
              have HF5 := Lib.hid (HFM.out.same hsn HB4.out.size)
              have g6 : ¬ (x.size : Int) ≤ 6144 - (T : Int) := by omega
              have hw3 : IntKind.i64.wrap ((k : Int) + 1) = (k : Int) + 1 := IntWalk.i64_in _ (by omega)
              clear hs5 hsn ho HD HNO HFM HS4 htidy
              go_wp2_with fail
              refine HG.out.mono ?_
              rintro e w6 ⟨rfl, hb6⟩
              have HB6 := Lib.hid (HB5.out.trans (hb6.mono HB5.out.size))
              have HS6 := Lib.hid (HS5.out.next hb6)
              clear hb6 HG
              go_wp2_with fail
              go_roundw
              case rel => exact ⟨k + 1, T, m5, D, by first | rfl | go_num, by first | rfl | go_num, by omega, by omega, hT, by omega, HS6.out, HF5.out, HN5.out, HB6.out⟩
              case measure => simp [intOf]; omega
      · have c2 : ¬ (k : Int) < 64 := by omega
        go_wp2_with fail
        refine (space_any S m k D wr HST.out (by omega)).mono ?_
        rw [hT]
        rintro e w3 ⟨rfl, hb⟩
        have HB3 := Lib.hid (HBW.out.trans (hb.mono HBW.out.size))
        clear hb
        go_wp2_with fail
        go_ret
        exact ⟨by simp, HB3.out⟩
    · have c1 : ¬ (k : Int) < (ts.length : Int) := by omega
      go_wp2_with fail
      refine (space_any S m k D wr HST.out (by omega)).mono ?_
      rw [hT]
      rintro e w3 ⟨rfl, hb⟩
      have HB3 := Lib.hid (HBW.out.trans (hb.mono HBW.out.size))
      clear hb
      go_wp2_with fail
      go_ret
      exact ⟨by simp, HB3.out⟩

set_option maxRecDepth 100000 in
/-- What the walk gives, for every argument and every world that holds the table. -/
theorem contract (H : Type) (enc : TypeId × Value → H) (W : World) (base : Nat) (args : Array Value) (ds gs : List (DataW H)) (before : List MemPlace)
    (hval : ∀ (j : Nat) t v, Tryd.f4.params[j]? = some t → args[j]? = some v → Value.okWide Tryd.prog W .any base t v)
    (hW : DataW.Whole enc Tryd.prog Tryd.f4.params.toList Rows.phosphorKeptSpec.vars false W args.toList ds gs before) (hL : laidMetH Tryd.prog Rows.phosphorKeptRow.laid W)
    (hreach : (DataW.weightsEach Tryd.prog (Tryd.f4.params.toList ++ []) (ds ++ gs)).all (· ≤ reachBytes) = true) :
    Calls Tryd.prog 4 args W fun e W' => ∃ v, e = .returned v ∧ Rows.phosphorKeptSpec.post enc Tryd.prog Tryd.f4 false true false false W args v W' := by
  have hW' := hW
  have ht := tenH hL
  have hs := errH hL
  have hlts : ∀ x ∈ before, x.block < W.heap.size := fun x hx => hW'.lt x hx
  obtain ⟨p, q, hA0, hV, rfl, hfz, hnd⟩ := hW
  have hA : DataW.TrodAll enc Tryd.prog W 0 (fun _ => true) true Tryd.f4.params.toList args.toList ds p := hA0
  rw [Tryd.params4] at hA hval hreach
  obtain ⟨v0, vs0, d0, ds0, pp0, qq0, hargs, rfl, rfl, h0, rr0⟩ := trodAll_cons hA
  obtain ⟨v1, vs1, d1, ds1, pp1, qq1, rfl, rfl, rfl, h1, rr1⟩ := trodAll_cons rr0
  obtain ⟨rfl, rfl, rfl⟩ := trodAll_nil rr1
  obtain rfl : args = #[v0, v1] := by cases args; simp_all
  obtain ⟨rfl, rfl⟩ := trodVars_none hV
  obtain ⟨b0, len0, cap0, rfl⟩ := okWide_slice Tryd.underlying35 (hval 0 35 v0 rfl rfl)
  obtain ⟨l0, hlen0, hm0, hri0, hsz0⟩ := strs_in h0
  subst hlen0
  obtain ⟨a1, rfl, rfl, rfl⟩ := open_bool Tryd.underlying4 (hval 1 4 v1 rfl rfl) h1
  clear hA0
  refine (walk b0 cap0 l0 hm0 hsz0 a1 W ht hs hri0).mono fun e W' ⟨he, hb⟩ => ?_
  subst he
  exact ⟨_, rfl, post_law laidOut (by kernel_rfl) (by kernel_rfl) rfl hW' rfl hb⟩

set_option maxRecDepth 100000 in
theorem laid_met (os : Os) : laidMet Tryd.prog Rows.phosphorKeptRow.laid ((laidWorldH os).forCall (fun _ _ => 0) ⟨#[], #[Value.slice none 0 0, Value.bool false], []⟩).memory :=
  laid_metH os _
set_option maxRecDepth 100000 in
theorem reads (os : Os) {H : Type} (enc : TypeId × Value → H) : ∃ places, DataW.whole enc Tryd.prog ((laidWorldH os).forCall (fun _ _ => 0) ⟨#[], #[Value.slice none 0 0, Value.bool false], []⟩).memory Tryd.f4.params.toList Rows.phosphorKeptSpec.vars false (#[Value.slice none 0 0, Value.bool false] : Array Value).toList 8 = some ([.nil, .lit (.bool false)], [], places) :=
  ⟨[], by kernel_rfl⟩

set_option maxRecDepth 100000 in
theorem lifted (os : Os) (started : os.Started) (H : Type) (enc : TypeId × Value → H) (F : Stop.Interp) :
    ReturnsInHanded {} Tryd.checked os 4 .any ((OpenSpec.ofChange Rows.phosphorKeptSpec).preRow enc Tryd.prog Tryd.f4 Rows.phosphorKeptRow.domain false Rows.phosphorKeptRow.laid) (((OpenSpec.ofChange Rows.phosphorKeptSpec).at F).post enc Tryd.prog Tryd.f4 false true false false) := by
  obtain ⟨places, hx⟩ := reads os enc
  refine returnsInHanded_of_row (C := Tryd.checked) (s := OpenSpec.ofChange Rows.phosphorKeptSpec) own started (by kernel_rfl) Tryd.func4
    (witness_row_atRef (enc := enc) (C := Tryd.checked) false (laidWorldH os) #[Value.slice none 0 0, Value.bool false] rfl (by kernel_rfl) (by kernel_rfl) (by kernel_rfl)
      (OpenSpec.preRow_of_cond 8 hx (by kernel_rfl) (fun k hk => by cases hk) (by kernel_rfl) (laid_met os))) ?_
  intro W base args ds gs before hval hW _ _ hreach hL _ _
  exact contract H enc W base args ds gs before hval hW hL hreach

theorem said : Rows.PhosphorKeptSaid :=
  OpenClaim.holds_of_cond 4 Tryd.f4 rfl rfl rfl rfl rfl rfl rfl ⟨rfl, rfl, rfl, rfl, rfl⟩ rfl rfl rfl rfl rfl (by kernel_rfl) Tryd.func4 (by kernel_rfl)
    (of_decide_eq_true (by kernel_rfl)) (by unfold Func.isWrapper; first | (rw [if_pos (by decide +kernel)]; kernel_rfl) | (rw [if_neg (by decide +kernel)]; exact ⟨rfl, rfl⟩))
    (fun os started H enc _ F => by rw [OpenClaim.pre_eq_preRow]; exact lifted os started H enc F)

theorem plain (f : FuncId) (fn : Func) (hf : Tryd.pinned.checked.prog.funcNamed "phosphor/phosphortop.PhosphorKept" = some f) (hfn : Tryd.pinned.checked.prog.funcs[f]? = some fn) :
    true = Tryd.pinned.checked.prog.looks [] ∧ ∀ (j : Nat) t, fn.params[j]? = some t → Tryd.pinned.checked.prog.wantsStandIn t = false := by
  obtain rfl : f = 4 := Option.some.inj ((show Tryd.prog.funcNamed "phosphor/phosphortop.PhosphorKept" = some 4 by kernel_rfl).symm.trans hf) |>.symm
  obtain rfl : fn = Tryd.f4 := (Option.some.inj (Tryd.func4.symm.trans hfn)).symm
  refine ⟨by kernel_rfl, fun j t ht => ?_⟩
  rw [Tryd.params4] at ht
  have hm : t ∈ [35, 4] := by simpa using Array.mem_of_getElem? ht
  have hall : ([35, 4].all fun u => !Tryd.prog.wantsStandIn u) = true := by kernel_rfl
  exact (show Tryd.prog.wantsStandIn t = false by simpa using List.all_eq_true.1 hall t hm)

/-- The card. -/
theorem card : Rows.PhosphorKeptCardSaid :=
  Claim7.holds_tied_plain_at .later [] _ _ _ _ said (fun _ h => by cases h) (by kernel_rfl) (fun _ h => by cases h) phosphorKept_row_tie rfl ⟨rfl, rfl⟩ (by kernel_rfl) rfl plain (by kernel_rfl)
#print axioms card
end Go.Proofs.YtnbbepkkedhhgaaDoor.phosphorKept

/-
  Hexadecimal digits read back, by the program.
  Hexadecimal digits by the document: one digit's number, and all of them read back.
  Bytes as hexadecimal digits, by the program and by the document.
-/
import Derived.Test.YtnbbepkkedhhgaaGreatDoorHexB
import Derived.Test.YtnbbepkkedhhgaaGreatDoorTokI
import Derived.Test.YtnbbepkkedhhgaaGreatDoorRepJ
import Derived.Test.YtnbbepkkedhhgaaGreatDoorTokY
namespace Go.Proofs.YtnbbepkkedhhgaaGreatDoor

open Go Go.RowKit

/-- What all digits of a text say. -/
def fhL : List Nat → Option (List Nat)
  | [] => some []
  | [_] => none
  | a :: b :: l => if hvN a < 16 ∧ hvN b < 16 then (fhL l).map (fun m => (16 * hvN a + hvN b) :: m) else none
def fhV (o : Option (List Nat)) : Value := match o with
  | some l => .tuple #[.string (bstr l), .int .i64 0]
  | none => .tuple #[.string ⟨#[]⟩, .int .i64 3]
def szV (v : Value) : Nat := match v with
  | .string u => u.size
  | _ => 0
theorem natB_len (u : ByteArray) : (natL u.data.toList).length = u.size := by
  unfold natL
  rw [List.length_map, Array.length_toList]; rfl
theorem two_of (u : ByteArray) (h : 2 ≤ u.size) : natL u.data.toList = (u.data.toList.getD 0 0).toNat :: (u.data.toList.getD 1 0).toNat :: natL (u.extract 2 u.size).data.toList := by
  have e : (u.extract 2 u.size).data.toList = u.data.toList.drop 2 := by
    rw [ByteArray.data_extract, Array.toList_extract, List.extract_eq_take_drop, List.take_of_length_le]
    rw [List.length_drop, Array.length_toList]
    exact Nat.le_refl _
  rw [e]
  have hl : 2 ≤ u.data.toList.length := by rw [Array.length_toList]; exact h
  revert hl
  generalize u.data.toList = l
  intro hl
  match l, hl with
  | a :: b :: r, _ => rfl
theorem two_ext (u : ByteArray) (h : 2 ≤ u.size) : (u.extract 0 2).size = 2 ∧ (u.extract 0 2).data.toList.getD 0 0 = u.data.toList.getD 0 0 ∧ (u.extract 0 2).data.toList.getD 1 0 = u.data.toList.getD 1 0 := by
  have e : (u.extract 0 2).data.toList = u.data.toList.take 2 := by
    rw [ByteArray.data_extract, Array.toList_extract, List.extract_eq_take_drop]; rfl
  refine ⟨by rw [ByteArray.size_extract]; omega, ?_, ?_⟩
  all_goals
    rw [e]
    have hl : 2 ≤ u.data.toList.length := by rw [Array.length_toList]; exact h
    revert hl
    generalize u.data.toList = l
    intro hl
    match l, hl with
    | a :: b :: r, _ => rfl
set_option maxRecDepth 100000 in
set_option maxHeartbeats 4000000 in
theorem fromHex_any (t : ByteArray) (ht : t.size ≤ 1000000) (w : World) (he : ErrS w) :
    Calls Tryz.prog 38 #[.string t] w fun e w' => e = .returned (fhV (fhL (natL t.data.toList))) ∧ Below w.heap.size w w' := by
  obtain ⟨V, hV⟩ : ∃ V, V = fhV (fhL (natL t.data.toList)) := ⟨_, rfl⟩
  rw [← hV]
  have HV := Lib.hid hV
  have HE := Lib.hid he
  have HP := Lib.hid (fun s h2 W h => puPub_any s h2 W h)
  have HCv := Lib.hid (fun ns A n W (h : RByt W A ns) => conv_by h n)
  clear hV he
  --#0
  go_enter Tryz.func38, Tryz.ntmps38
  go_upto_region 2 with fail
  go_loopw [0, 4] (fun s b wr => ∃ (u : ByteArray) (L : List Nat), s = .string u ∧ u.size + L.length ≤ t.size ∧ OByt wr w.heap.size b L ∧ Below w.heap.size w wr ∧ Hid (fhL (natL t.data.toList) = (fhL (natL u.data.toList)).map (fun m => L ++ m))) (fun s _ _ => szV s)
  case atStart => exact ⟨t, [], rfl, by simp, obyt_nil _ _, Below.refl _ _, Lib.hid (by simp)⟩
  case round =>
    obtain ⟨u, L, rfl, hlen, ho, hb, hq⟩ := hrel
    have HO := Lib.hid ho; have HB := Lib.hid hb
    have HEr := Lib.hid (HE.out.next HB.out)
    clear ho hb
    by_cases hgo : 2 ≤ u.size
    · have h2 := two_of u hgo
      obtain ⟨hs2, ha, hb⟩ := two_ext u hgo
      have HPu := Lib.hid (HP.out _ hs2 wr HEr.out)
      rw [ha, hb] at HPu
      have hu3 : (u.extract 2 u.size).size = u.size - 2 := by rw [ByteArray.size_extract]; omega
      have hQ := hq.out
      rw [h2] at hQ
      generalize hvp : (u.data.toList.getD 0 0).toNat = x at *
      generalize hvq : (u.data.toList.getD 1 0).toNat = y at *
      clear ha hb h2 hq hvp hvq
      have hstep : fhL (x :: y :: natL (u.extract 2 u.size).data.toList) = if hvN x < 16 ∧ hvN y < 16 then (fhL (natL (u.extract 2 u.size).data.toList)).map (fun m => (16 * hvN x + hvN y) :: m) else none := rfl
      rw [hstep] at hQ
      clear hstep
      generalize hvN x = p at *
      generalize hvN y = q at *
      by_cases hpq : p < 16 ∧ q < 16
      · rw [if_pos hpq] at hQ
        have hz : IntKind.u8.wrap ((16 * p + q : Nat) : Int) = ((16 * p + q : Nat) : Int) := IntWalk.u8_in _ (by omega)
        have HN : Hid (fhL (natL t.data.toList) = (fhL (natL (u.extract 2 u.size).data.toList)).map (fun m => (L ++ [16 * p + q]) ++ m)) := Lib.hid (by
          rw [hQ, Option.map_map]
          congr 1
          funext m
          simp)
        clear hQ
        obtain ⟨zn, hzn⟩ : ∃ zn, zn = 16 * p + q := ⟨_, rfl⟩
        rw [← hzn] at hz HN
        have HPy : Hid (Calls Tryz.prog 56 #[.string (u.extract 0 2), .int .i64 16, .int .i64 8] wr fun e w' => e = .returned (.tuple #[.int .u64 (zn : Nat), .nilIface]) ∧ Below wr.heap.size wr w') := Lib.hid (HPu.out.mono (fun e w' h => by
          rcases h.1 with ⟨_, _, h1⟩ | ⟨h1, _⟩
          · exact ⟨by rw [h1, hzn], h.2⟩
          · exact absurd hpq h1))
        clear HPu hzn hpq HP
        generalize hux : u.extract 0 2 = u2 at *
        generalize huy : u.extract 2 u.size = u3 at *
        clear hs2
        --#1
        go_wp2_with (first
          | (at_builtin; refine wpList_push rfl _ _ _ rfl w.heap.size 5 (.int .u8 0) 1 Tryz.underlying59 info_byte rfl _ _ _ rfl (obyt_own HO2.out) (.int .u8 (zn : Nat)) rfl _ _ _ rfl rfl (by unfold maxLen; omega) (by omega) HB2.out.size ?_; intro v' w' hown hg hb3; have HO3 : Hid (OByt w' w.heap.size v' (L ++ [zn])) := Lib.hid (by simpa [OByt] using hown); have HB3 := Lib.hid (HB2.out.trans hb3); clear hown hg hb3)
          | (refine HPy.out.mono ?_; rintro e w2 ⟨rfl, hb2⟩; have HO2 := Lib.hid (HO.out.next hb2); have HB2 := Lib.hid (HB.out.trans (hb2.mono HB.out.size)); clear hb2))
        go_roundw
        case rel => exact ⟨u3, L ++ [zn], rfl, by rw [List.length_append]; simp; omega, HO3.out, HB3.out, HN⟩
        case measure => simp [szV]; omega
      · rw [if_neg hpq] at hQ
        have hV2 : V = fhV none := by rw [HV.out, hQ]; rfl
        have HV2 := Lib.hid hV2
        have HPy : Hid (Calls Tryz.prog 56 #[.string (u.extract 0 2), .int .i64 16, .int .i64 8] wr fun e w' => (∃ te pe, e = .returned (.tuple #[.int .u64 0, .iface te pe])) ∧ Below wr.heap.size wr w') := Lib.hid (HPu.out.mono (fun e w' h => by
          rcases h.1 with ⟨h0, h1, _⟩ | ⟨_, h1⟩
          · exact absurd ⟨h0, h1⟩ hpq
          · exact ⟨h1, h.2⟩))
        clear HPu hpq HP hQ hV2 HV
        generalize hux : u.extract 0 2 = u2 at *
        clear hs2 hu3
        go_wp2_with (refine HPy.out.mono ?_; rintro e w2 ⟨⟨te, pe, rfl⟩, hb2⟩; have HB2 := Lib.hid (HB.out.trans (hb2.mono HB.out.size)); clear hb2)
        go_ret2
        exact ⟨by rw [HV2.out]; rfl, HB2.out⟩
    · obtain ⟨Q, cq, rfl⟩ := OByt.form HO.out
      have hcv := HCv.out _ Q cq _ (OByt.reads HO.out)
      by_cases h0 : u.size = 0
      · obtain rfl : u = ⟨#[]⟩ := ByteArray.ext (Array.eq_empty_of_size_eq_zero h0)
        have HV2 : Hid (V = .tuple #[.string (bstr L), .int .i64 0]) := Lib.hid (by rw [HV.out, hq.out]; simp [natL, fhL, fhV])
        clear hgo hq
        go_wp2_with fail
        go_ret2
        exact ⟨by rw [HV2.out]; rfl, HB.out⟩
      · have h1 : u.size = 1 := by omega
        have HV2 : Hid (V = .tuple #[.string ⟨#[]⟩, .int .i64 3]) := Lib.hid (by
          rw [HV.out, hq.out]
          have hl : (natL u.data.toList).length = 1 := by rw [natB_len]; exact h1
          revert hl
          generalize natL u.data.toList = l
          intro hl
          match l, hl with
          | [a], _ => rfl)
        have hne : (u.toList == []) = false := by
          rw [ByteArray.toList_eq, beq_eq_false_iff_ne]
          intro h
          have h3 := congrArg List.length h
          rw [Array.length_toList] at h3
          exact absurd h3 (by show u.size ≠ 0; omega)
        have hemp : u.toList.isEmpty = false := by
          rw [← decide_eq_emptyBytes]
          exact decide_eq_false (fun h => h0 (by rw [h]; rfl))
        clear hgo hq
        go_wp2_with fail
        go_ret2
        exact ⟨by rw [HV2.out]; rfl, HB.out⟩
end Go.Proofs.YtnbbepkkedhhgaaGreatDoor

namespace Go.Proofs.YtnbbepkkedhhgaaGreatDoor

open Go Go.RowKit

/-- A digit's number; -1: it is none. -/
def valI (c : Nat) : Int := if hvN c < 16 then (hvN c : Int) else -1
theorem val_key : ∀ c : Nat, c < 256 → ∀ k : Nat, k < 16 → ((hdN k == c) || (decide (9 < k) && (hdN k + 32 == c))) = (hvN c == k) := by decide +kernel
theorem hd_le : ∀ k : Nat, k < 16 → hdN k ≤ 70 := by decide +kernel
set_option maxRecDepth 100000 in
set_option maxHeartbeats 4000000 in
theorem value_any (c : Nat) (hc : c < 256) (w : World) :
    Calls Tryz.prog 63 #[.int .u8 (c : Nat)] w fun e w' => e = .returned (.int .i64 (valI c)) ∧ w = w' := by
  have HX := Lib.hid (fun n hn W => refHex_any n hn W)
  obtain ⟨V, hV⟩ : ∃ V, V = valI c := ⟨_, rfl⟩
  rw [← hV]
  replace hV := Lib.hid hV
  go_enter Tryz.func63, Tryz.ntmps63
  go_upto_region 2 with fail
  go_loopw [3] (fun n wr => ∃ k : Nat, n = .int .i64 k ∧ k ≤ 16 ∧ Hid (k ≤ hvN c) ∧ w = wr) (fun n _ => 16 - (intOf n).toNat)
  case atStart => exact ⟨0, rfl, by omega, Lib.hid (Nat.zero_le _), rfl⟩
  case round =>
    obtain ⟨k, rfl, hk, hn, rfl⟩ := hrel
    by_cases hgo : k < 16
    · have hkey := val_key c hc k hgo
      have HXk := Lib.hid (HX.out k hgo)
      have hle := hd_le k hgo
      have hVk : hvN c = k → V = (k : Int) := fun h => by rw [hV.out]; unfold valI; rw [h, if_pos hgo]
      have hnx : hvN c ≠ k → k + 1 ≤ hvN c := fun h => by have := hn.out; omega
      generalize hvN c = m at *
      generalize hdN k = y at *
      have hkey : (y = c ∨ (9 < k ∧ y + 32 = c)) ↔ m = k := by
        rw [Bool.eq_iff_iff] at hkey
        simpa using hkey
      have hwk : IntKind.i64.wrap ((k : Int) + 1) = (k : Int) + 1 := IntWalk.i64_in _ (by omega)
      have hwy : IntKind.u8.wrap ((y : Int) + 32) = (y : Int) + 32 := IntWalk.u8_in _ (by omega)
      by_cases h1 : y = c
      · have HVk := Lib.hid (hVk (hkey.1 (.inl h1)))
        subst h1
        clear hkey hVk hnx hle hn hV
        go_wp2_with (refine (HXk.out _).mono ?_; rintro e w' ⟨rfl, rfl⟩)
        go_ret
        exact ⟨by rw [HVk.out]; rfl, by first | rfl | trivial⟩
      · have e1 : ((y : Int) == (c : Int)) = false := by simp; omega
        by_cases h9 : 9 < k
        · by_cases h2 : y + 32 = c
          · have HVk := Lib.hid (hVk (hkey.1 (.inr ⟨h9, h2⟩)))
            have e2 : ((y : Int) + 32 == (c : Int)) = true := by simp; omega
            clear hkey hVk hnx hle hn hV h1 h2
            go_wp2_with (refine (HXk.out _).mono ?_; rintro e w' ⟨rfl, rfl⟩)
            go_ret
            exact ⟨by rw [HVk.out]; rfl, by first | rfl | trivial⟩
          · have HN := Lib.hid (hnx (fun h => (hkey.2 h).elim h1 (fun g => h2 g.2)))
            have e2 : ((y : Int) + 32 == (c : Int)) = false := by simp; omega
            clear hkey hVk hnx hle hn h1 h2
            go_wp2_with (refine (HXk.out _).mono ?_; rintro e w' ⟨rfl, rfl⟩)
            go_roundw
            case rel => exact ⟨k + 1, by go_num, by omega, HN, by first | rfl | trivial⟩
            case measure => simp [intOf]; omega
        · have HN := Lib.hid (hnx (fun h => (hkey.2 h).elim h1 (fun g => h9 g.1)))
          clear hkey hVk hnx hle hn h1
          go_wp2_with (refine (HXk.out _).mono ?_; rintro e w' ⟨rfl, rfl⟩)
          go_roundw
          case rel => exact ⟨k + 1, by go_num, by omega, HN, by first | rfl | trivial⟩
          case measure => simp [intOf]; omega
    · have hV2 : V = -1 := by
        rw [hV.out]; unfold valI; rw [if_neg (by have := hn.out; omega)]
      replace hV2 := Lib.hid hV2
      have hd : decide ((k : Int) < 16) = false := by simp; omega
      clear hV hn
      go_wp2_with fail
      go_ret
      exact ⟨by rw [hV2.out]; rfl, by first | rfl | trivial⟩
def fhW (o : Option (List Nat)) : Value := match o with
  | some l => .tuple #[.string (bstr l), .bool true]
  | none => .tuple #[.string ⟨#[]⟩, .bool false]
theorem drop_two (u : ByteArray) (i : Nat) (h : i + 1 < u.size) : (natL u.data.toList).drop i = (u[i]).toNat :: (u[i + 1]).toNat :: (natL u.data.toList).drop (i + 2) := by
  have hl : (natL u.data.toList).length = u.size := natB_len u
  rw [List.drop_eq_getElem_cons (by omega), List.drop_eq_getElem_cons (by omega)]
  congr 1
  · simp [natL]; rfl
  · congr 1
    simp [natL]; rfl
theorem drop_one (u : ByteArray) (i : Nat) (h : i + 1 = u.size) : fhL ((natL u.data.toList).drop i) = none := by
  have hl : ((natL u.data.toList).drop i).length = 1 := by rw [List.length_drop, natB_len]; omega
  revert hl
  generalize (natL u.data.toList).drop i = l
  intro hl
  match l, hl with
  | [a], _ => rfl
set_option maxRecDepth 100000 in
set_option maxHeartbeats 8000000 in
theorem refFromHex_any (t : ByteArray) (ht : t.size ≤ 1000000) (w : World) :
    Calls Tryz.prog 46 #[.string t] w fun e w' => e = .returned (fhW (fhL (natL t.data.toList))) ∧ Below w.heap.size w w' := by
  obtain ⟨V, hV⟩ : ∃ V, V = fhW (fhL (natL t.data.toList)) := ⟨_, rfl⟩
  rw [← hV]
  have HV := Lib.hid hV
  have HCv := Lib.hid (fun ns A n W (h : RByt W A ns) => conv_by h n)
  have HVa := Lib.hid (fun c hc W => value_any c hc W)
  obtain ⟨i0, hi0, hz0, hz1, hz2⟩ := info_parts info_byte
  have HI0 := Lib.hid hi0; have HZ0 := Lib.hid hz0; have HZ1 := Lib.hid hz1; have HZ2 := Lib.hid hz2
  clear hV hi0 hz0 hz1 hz2
  go_enter Tryz.func46, Tryz.ntmps46
  go_upto_region 3 with fail
  go_loopw [4, 5] (fun b i wr => ∃ (k : Nat) (L : List Nat), i = .int .i64 k ∧ k ≤ t.size ∧ L.length ≤ k ∧ OByt wr w.heap.size b L ∧ Below w.heap.size w wr ∧ Hid (fhL (natL t.data.toList) = (fhL ((natL t.data.toList).drop k)).map (fun m => L ++ m))) (fun _ i _ => t.size - (intOf i).toNat)
  case atStart => exact ⟨0, [], rfl, by omega, by simp, obyt_nil _ _, Below.refl _ _, Lib.hid (by simp)⟩
  case round =>
    obtain ⟨k, L, rfl, hk, hL, ho, hb, hq⟩ := hrel
    have HO := Lib.hid ho; have HB := Lib.hid hb
    clear ho hb
    by_cases hgo : k < t.size
    · have hw1 : IntKind.i64.wrap ((k : Int) + 1) = (k : Int) + 1 := IntWalk.i64_in _ (by omega)
      have hw2 : IntKind.i64.wrap ((k : Int) + 2) = (k : Int) + 2 := IntWalk.i64_in _ (by omega)
      --#3
      by_cases hend : k + 1 = t.size
      · have HV2 : Hid (V = .tuple #[.string ⟨#[]⟩, .bool false]) := Lib.hid (by rw [HV.out, hq.out, drop_one t k hend]; rfl)
        have e1 : ((k : Int) + 1 == (t.size : Int)) = true := by simp; omega
        clear hq hend
        go_wp2_with fail
        go_ret2
        exact ⟨by rw [HV2.out]; rfl, HB.out⟩
      · have e1 : ((k : Int) + 1 == (t.size : Int)) = false := by simp; omega
        have hlt : k + 1 < t.size := by omega
        have h2 := drop_two t k hlt
        have hQ := hq.out
        rw [h2] at hQ
        have HA := Lib.hid (fun W => HVa.out (t[k]).toNat (UInt8.toNat_lt _) W)
        have HBv := Lib.hid (fun W => HVa.out (t[k + 1]).toNat (UInt8.toNat_lt _) W)
        have hstep : fhL ((t[k]).toNat :: (t[k + 1]).toNat :: (natL t.data.toList).drop (k + 2)) = if hvN (t[k]).toNat < 16 ∧ hvN (t[k + 1]).toNat < 16 then (fhL ((natL t.data.toList).drop (k + 2))).map (fun m => (16 * hvN (t[k]).toNat + hvN (t[k + 1]).toNat) :: m) else none := rfl
        rw [hstep] at hQ
        clear hstep h2 hq
        unfold valI at HA HBv
        generalize hvN (t[k]).toNat = p at *
        generalize hvN (t[k + 1]).toNat = q at *
        --#4
        by_cases hp : p < 16
        · rw [if_pos hp] at HA
          by_cases hqq : q < 16
          · rw [if_pos hqq] at HBv
            rw [if_pos ⟨hp, hqq⟩] at hQ
            have HN : Hid (fhL (natL t.data.toList) = (fhL ((natL t.data.toList).drop (k + 2))).map (fun m => (L ++ [16 * p + q]) ++ m)) := Lib.hid (by
              rw [hQ, Option.map_map]
              congr 1
              funext m
              simp)
            obtain ⟨z, hz⟩ : ∃ z : Nat, z = 16 * p + q := ⟨_, rfl⟩
            rw [← hz] at HN
            have hm1 : IntKind.i64.wrap (16 * (p : Int)) = 16 * (p : Int) := IntWalk.i64_in _ (by omega)
            have hm2 : IntKind.i64.wrap (16 * (p : Int) + (q : Int)) = (z : Int) := (IntWalk.i64_in _ (by omega)).trans (by omega)
            have hm3 : IntKind.u8.wrap (z : Int) = (z : Int) := IntWalk.u8_in _ (by omega)
            clear hz
            clear hQ
            --#5
            go_upto_region 7 with (first | (with_reducible refine (HA.out _).mono ?_; rintro e w1 ⟨rfl, rfl⟩) | (with_reducible refine (HBv.out _).mono ?_; rintro e w1 ⟨rfl, rfl⟩))
            --#1
            have HOw := Lib.hid (obyt_own HO.out)
            go_region_law
              (first
                | (go_simp; go_at_call 63; (first | with_reducible refine (HA.out _).mono ?_ | with_reducible refine (HBv.out _).mono ?_); rintro e w1 ⟨rfl, rfl⟩)
                | (refine step_append_lies _ (by rfl) _ _ _ (by rfl) w.heap.size 5 i0 _ 1 1 Tryz.underlying59 HI0.out HZ0.out HZ1.out HZ2.out rfl (by decide) u4 L.length _ (by rfl) (by first | exact (World.ownsRow.alloc HOw.out _) | exact (World.ownsRow.drew (World.ownsRow.alloc HOw.out _)) | exact (World.ownsRow.alloc (World.ownsRow.drew HOw.out) _)) ⟨wr.heap.size, 0, none⟩ 1 1 [.int .u8 (z : Int)] (by rfl) (by rfl) (World.news_of_block (cs := #[.int .u8 (z : Int)]) (t := 5) (fr := (0, 0)) (heap_alloc_new _ _)) (by simp [Value.oneCell']) (by omega) (by unfold maxLen; omega) (by omega) (by have := HB.out.size; simp; omega) (wr.heap.size + 1) (by simp) ?_; intro gg cap w4 hown4 hgrow hat hlt4; have HB4 : Hid (Below w.heap.size w w4) := Lib.hid (by have h1 := fun o => HB.out.alloc HB.out.size o; have h2 := fun o => (HB.out.alloc HB.out.size o).drew; have h3 := fun o => (HB.out.drew).alloc HB.out.size o; have hq := fun q hq => (World.ownsRow.lt HO.out q hq).1; first | exact (h1 _).grown hgrow (h1 _).size hq | exact (h2 _).grown hgrow (h2 _).size hq | exact (h3 _).grown hgrow (h3 _).size hq); have HO4 := Lib.hid hown4; clear hown4 hgrow hat hlt4))
            --#2
            go_wp2_with fail
            all_goals
              go_roundw
              case rel => exact ⟨k + 2, L ++ [z], by first | rfl | go_num, by omega, by rw [List.length_append]; simp; omega, by simpa [OByt] using HO4.out, HB4.out, HN⟩
              case measure => simp [intOf]; omega
          · rw [if_neg hqq] at HBv
            rw [if_neg (fun h => hqq h.2)] at hQ
            have HV2 : Hid (V = .tuple #[.string ⟨#[]⟩, .bool false]) := Lib.hid (by rw [HV.out, hQ]; rfl)
            clear hQ
            --#6
            go_wp2_with (first | (with_reducible refine (HA.out _).mono ?_; rintro e w1 ⟨rfl, rfl⟩) | (with_reducible refine (HBv.out _).mono ?_; rintro e w1 ⟨rfl, rfl⟩))
            go_ret2
            exact ⟨by rw [HV2.out]; rfl, HB.out⟩
        · rw [if_neg hp] at HA
          rw [if_neg (fun h => hp h.1)] at hQ
          have HV2 : Hid (V = .tuple #[.string ⟨#[]⟩, .bool false]) := Lib.hid (by rw [HV.out, hQ]; rfl)
          clear hQ
          --#7
          go_wp2_with (with_reducible refine (HA.out _).mono ?_; rintro e w1 ⟨rfl, rfl⟩)
          go_ret2
          exact ⟨by rw [HV2.out]; rfl, HB.out⟩
    · obtain rfl : k = t.size := by omega
      obtain ⟨Q, cq, rfl⟩ := OByt.form HO.out
      have hcv := HCv.out _ Q cq _ (OByt.reads HO.out)
      have HV2 : Hid (V = .tuple #[.string (bstr L), .bool true]) := Lib.hid (by
        rw [HV.out, hq.out, List.drop_of_length_le (by rw [natB_len]; exact Nat.le_refl _)]
        simp [fhL, fhW])
      clear hq hgo
      go_wp2_with fail
      go_ret2
      exact ⟨by rw [HV2.out]; rfl, HB.out⟩
end Go.Proofs.YtnbbepkkedhhgaaGreatDoor

namespace Go.Proofs.YtnbbepkkedhhgaaGreatDoor

open Go Go.RowKit

theorem nat_lt (l : List UInt8) : ∀ x ∈ natL l, x < 256 := by
  intro x hx
  unfold natL at hx
  obtain ⟨c, _, rfl⟩ := List.mem_map.1 hx
  exact UInt8.toNat_lt c
theorem bstr_back (s : ByteArray) : bstr (natL s.data.toList) = s := by
  apply ByteArray.ext
  apply Array.ext'
  rw [bstr_list]
  unfold natL
  rw [List.map_map]
  conv => rhs; rw [← List.map_id s.data.toList]
  apply List.map_congr_left
  intro c _
  simp
theorem hv_hd : ∀ n : Nat, n < 16 → hvN (hdN n) = n := by decide +kernel
theorem hd_lt : ∀ n : Nat, n < 16 → hdN n < 256 := by decide +kernel
theorem fh_hex (l : List Nat) (h : ∀ x ∈ l, x < 256) : fhL (hexL l) = some l := by
  induction l with
  | nil => rfl
  | cons a l ih =>
    have ha := h a (by simp)
    show fhL (hdN (a / 16) :: hdN (a % 16) :: hexL l) = _
    have e : fhL (hdN (a / 16) :: hdN (a % 16) :: hexL l) = if hvN (hdN (a / 16)) < 16 ∧ hvN (hdN (a % 16)) < 16 then (fhL (hexL l)).map (fun m => (16 * hvN (hdN (a / 16)) + hvN (hdN (a % 16))) :: m) else none := rfl
    rw [e, hv_hd _ (by omega), hv_hd _ (by omega), if_pos ⟨by omega, by omega⟩, ih (fun x hx => h x (by simp [hx]))]
    simp
    omega
theorem hex_lt (l : List Nat) (h : ∀ x ∈ l, x < 256) : ∀ x ∈ hexL l, x < 256 := by
  intro x hx
  unfold hexL at hx
  obtain ⟨a, ha, hx⟩ := List.mem_flatMap.1 hx
  have := h a ha
  simp at hx
  rcases hx with rfl | rfl
  · exact hd_lt _ (by omega)
  · exact hd_lt _ (by omega)
theorem nat_bstr (l : List Nat) (h : ∀ x ∈ l, x < 256) : natL (bstr l).data.toList = l := by
  rw [bstr_list]
  unfold natL
  rw [List.map_map]
  conv => rhs; rw [← List.map_id l]
  apply List.map_congr_left
  intro c hc
  have := h c hc
  simp only [Function.comp_apply, id_eq]
  exact UInt8.toNat_ofNat_of_lt (by exact this)


end Go.Proofs.YtnbbepkkedhhgaaGreatDoor

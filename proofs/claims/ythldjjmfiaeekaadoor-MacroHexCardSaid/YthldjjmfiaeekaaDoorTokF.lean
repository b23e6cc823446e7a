/-
  Tokens: are there such bytes alone as may be, is all zero that the kind doesn't use, can it be?
-/
import Derived.Test.YthldjjmfiaeekaaDoorTokE
namespace Go.Proofs.YthldjjmfiaeekaaDoor

open Go Go.RowKit

def interB (b : UInt8) : Bool := amongB b.toNat 32 47
def writtenB (m : Nat) (s : ByteArray) (dt : List Nat) : Bool := ((m == 0) || amongB m 60 63) && (s.data.toList.all interB && !(dt.any noDataB))
theorem dlen (s : ByteArray) : s.data.toList.length = s.size := by show s.data.toList.length = s.data.size; simp
theorem dat (s : ByteArray) (k : Nat) (hk : k < s.size) : s.data.toList[k]'(by rw [dlen]; exact hk) = s[k] := by simp; rfl
theorem all_step {s : ByteArray} {k : Nat} (hk : k < s.size) (h : (s.data.toList.take k).all interB = true) : (interB s[k] = true → (s.data.toList.take (k + 1)).all interB = true) ∧ (interB s[k] = false → s.data.toList.all interB = false) := by
  have hl : k < s.data.toList.length := by rw [dlen]; exact hk
  constructor
  · intro hi
    rw [take_snoc _ k hl, List.all_append, h, dat s k hk]
    simp [hi]
  · intro hi
    rcases he : s.data.toList.all interB with _ | _
    · rfl
    · have := List.all_eq_true.1 he _ (List.getElem_mem hl)
      rw [dat s k hk, hi] at this
      cases this
theorem all_end {s : ByteArray} (h : (s.data.toList.take s.size).all interB = true) : s.data.toList.all interB = true := by
  rw [List.take_of_length_le (by rw [dlen]; exact Nat.le_refl _)] at h
  exact h
set_option maxRecDepth 100000 in
set_option maxHeartbeats 8000000 in
theorem written_any (k : Int) (c m : Nat) (P : Option Addr) (ps : List Int) (pc : Nat) (s : ByteArray) (D : Option Addr) (dt : List Nat) (dc : Nat) (hsz : s.size ≤ maxLen) (hd : dt.length ≤ maxLen) (w : World) (hr : RByt w D dt) :
    Calls Tryd.prog 121 #[.agg (tkC k (c : Int) (m : Int) P ps pc s D dt dc)] w fun e w' => e = .returned (.bool (writtenB m s dt)) ∧ Below w.heap.size w w' := by
  have HA : Hid (∀ W, Calls Tryd.prog 122 #[.int .u8 (m : Int), .int .u8 60, .int .u8 63] W fun e w' => e = .returned (.bool (amongB m 60 63)) ∧ W = w') := Lib.hid (fun W => among_any m 60 63 W)
  have HI : Hid (∀ (n : Nat) W, Calls Tryd.prog 122 #[.int .u8 (n : Int), .int .u8 32, .int .u8 47] W fun e w' => e = .returned (.bool (amongB n 32 47)) ∧ W = w') := Lib.hid (fun n W => among_any n 32 47 W)
  have HC := Lib.hid (fun W h => containsB_any 134 noDataB (fun args W => Tryd.call134 args W) (fun n W => noData_any n W) D dc dt hd W h)
  have HR := Lib.hid hr
  have HK := Lib.hid (K1.start w 102 (tkC k (c : Int) (m : Int) P ps pc s D dt dc))
  have HSt := Lib.hid (fun k hk h => all_step (s := s) (k := k) hk h)
  have HEn := Lib.hid (fun h => all_end (s := s) h)
  clear hr hd
  unfold maxLen at hsz
  have e0 : ((m : Int) != 0) = !(m == 0) := by rw [Bool.eq_iff_iff, bne_iff_ne]; simp
  unfold writtenB
  unfold tkC at *
  generalize amongB m 60 63 = qm at *
  generalize dt.any noDataB = qd at *
  generalize hqs : s.data.toList.all interB = qs at *
  clear hqs
  rcases hm0 : (m == 0) with _ | _
  · rw [hm0] at e0; clear hm0
    rcases qm with _ | _
    · go_enter Tryd.func121, Tryd.ntmps121
      go_upto_region 1 with fail
      generalize w.alloc (.cells #[.int .i64 k, .int .u8 (c : Int), .int .u8 (m : Int), .slice P ps.length pc, .string s, .slice D dt.length dc] 102) = w1 at *
      obtain ⟨a0, a1, a2, a3, a4, a5⟩ := six HK.out.1
      go_wp2_with fail
      refine (HA.out _).mono ?_
      rintro e w2 ⟨rfl, rfl⟩
      go_wp2_with fail
      go_ret
      exact ⟨rfl, HK.out.2⟩
    · go_enter Tryd.func121, Tryd.ntmps121
      go_upto_region 1 with fail
      generalize w.alloc (.cells #[.int .i64 k, .int .u8 (c : Int), .int .u8 (m : Int), .slice P ps.length pc, .string s, .slice D dt.length dc] 102) = w1 at *
      obtain ⟨a0, a1, a2, a3, a4, a5⟩ := six HK.out.1
      go_wp2_with fail
      refine (HA.out _).mono ?_
      rintro e w2 ⟨rfl, rfl⟩
      clear e0
      go_wp2_with fail
      go_loopw [16] (fun i wr => ∃ j : Nat, j ≤ s.size ∧ i = .int .i64 j ∧ (s.data.toList.take j).all interB = true ∧ wr = w1) (fun i _ => s.size - (intOf i).toNat)
      case atStart => exact ⟨0, by omega, rfl, rfl, rfl⟩
      case round =>
        obtain ⟨j, hj, rfl, hall, rfl⟩ := hrel
        have HAll := Lib.hid hall
        clear hall
        by_cases hlt : j < s.size
        · have HIj := Lib.hid (fun W => HI.out s[j].toNat W)
          have HSj := Lib.hid (HSt.out j hlt HAll.out)
          unfold interB at HSj
          generalize hq : amongB s[j].toNat 32 47 = q at *
          clear hq
          rcases q with _ | _
          · have HE := Lib.hid (HSj.out.2 rfl)
            clear HSj HSt HEn HAll
            go_wp2_with fail
            refine (HIj.out _).mono ?_
            rintro e w2 ⟨rfl, rfl⟩
            go_wp2_with fail
            go_ret
            exact ⟨ret_bool (by rw [HE.out]; rfl), HK.out.2⟩
          · have HN := Lib.hid (HSj.out.1 rfl)
            clear HSj
            go_wp2_with fail
            refine (HIj.out _).mono ?_
            rintro e w2 ⟨rfl, rfl⟩
            go_wp2_with fail
            go_roundw
            case rel => exact ⟨j + 1, by omega, by go_num, HN.out, trivial⟩
            case measure => simp [intOf]; omega
        · obtain rfl : j = s.size := by omega
          have HE := Lib.hid (HEn.out HAll.out)
          clear HSt HEn HAll
          go_wp2_with fail
          refine (HC.out _ (HR.out.next HK.out.2)).mono ?_
          rintro e w2 ⟨rfl, hb2⟩
          have HB2 := Lib.hid (HK.out.2.trans (hb2.mono HK.out.2.size))
          clear hb2 a0 a1 a2 a3 a4 a5
          go_wp2_with fail
          go_ret
          exact ⟨ret_bool (by rw [HE.out]; rfl), HB2.out⟩
  · rw [hm0] at e0; clear hm0
    go_enter Tryd.func121, Tryd.ntmps121
    go_upto_region 1 with fail
    generalize w.alloc (.cells #[.int .i64 k, .int .u8 (c : Int), .int .u8 (m : Int), .slice P ps.length pc, .string s, .slice D dt.length dc] 102) = w1 at *
    obtain ⟨a0, a1, a2, a3, a4, a5⟩ := six HK.out.1
    go_wp2_with fail
    clear e0
    go_loopw [16] (fun i wr => ∃ j : Nat, j ≤ s.size ∧ i = .int .i64 j ∧ (s.data.toList.take j).all interB = true ∧ wr = w1) (fun i _ => s.size - (intOf i).toNat)
    case atStart => exact ⟨0, by omega, rfl, rfl, rfl⟩
    case round =>
      obtain ⟨j, hj, rfl, hall, rfl⟩ := hrel
      have HAll := Lib.hid hall
      clear hall
      by_cases hlt : j < s.size
      · have HIj := Lib.hid (fun W => HI.out s[j].toNat W)
        have HSj := Lib.hid (HSt.out j hlt HAll.out)
        unfold interB at HSj
        generalize hq : amongB s[j].toNat 32 47 = q at *
        clear hq
        rcases q with _ | _
        · have HE := Lib.hid (HSj.out.2 rfl)
          clear HSj HSt HEn HAll
          go_wp2_with fail
          refine (HIj.out _).mono ?_
          rintro e w2 ⟨rfl, rfl⟩
          go_wp2_with fail
          go_ret
          exact ⟨ret_bool (by rw [HE.out]; rfl), HK.out.2⟩
        · have HN := Lib.hid (HSj.out.1 rfl)
          clear HSj
          go_wp2_with fail
          refine (HIj.out _).mono ?_
          rintro e w2 ⟨rfl, rfl⟩
          go_wp2_with fail
          go_roundw
          case rel => exact ⟨j + 1, by omega, by go_num, HN.out, trivial⟩
          case measure => simp [intOf]; omega
      · obtain rfl : j = s.size := by omega
        have HE := Lib.hid (HEn.out HAll.out)
        clear HSt HEn HAll
        go_wp2_with fail
        refine (HC.out _ (HR.out.next HK.out.2)).mono ?_
        rintro e w2 ⟨rfl, hb2⟩
        have HB2 := Lib.hid (HK.out.2.trans (hb2.mono HK.out.2.size))
        clear hb2 a0 a1 a2 a3 a4 a5
        go_wp2_with fail
        go_ret
        exact ⟨ret_bool (by rw [HE.out]; rfl), HB2.out⟩
def pureB (k : Int) (c m : Nat) (ps : List Int) (s : ByteArray) (dt : List Nat) : Bool :=
  if k = 1 ∨ k = 2 then sameQ k 0 m ps s dt k 0 0 [] (ByteArray.mk #[]) []
  else if k = 3 then sameQ k 0 m ps (ByteArray.mk #[]) dt k 0 0 [] (ByteArray.mk #[]) []
  else if k = 4 then sameQ k 0 0 [] (ByteArray.mk #[]) dt k 0 0 [] (ByteArray.mk #[]) []
  else if k = 5 then true
  else sameQ k c m ps s [] k 0 0 [] (ByteArray.mk #[]) []
theorem pure5 : sameQ 5 0 0 [] (ByteArray.mk #[]) [] 5 0 0 [] (ByteArray.mk #[]) [] = true := by decide +kernel
theorem rints_nil (W : World) : RInts W none [] := Reads.none_
theorem rbyt_nil (W : World) : RByt W none [] := Reads.none_
def put6 (w : World) (g : Nat) (v0 v1 v2 v3 v4 v5 : Value) : World := (((((w.setCell ⟨g, 0, none⟩ v0).setCell ⟨g, 1, none⟩ v1).setCell ⟨g, 2, none⟩ v2).setCell ⟨g, 3, none⟩ v3).setCell ⟨g, 4, none⟩ v4).setCell ⟨g, 5, none⟩ v5
theorem KW.set {w W : World} {T : TypeId} {x y : Array Value} (h : KW w T x y W) (i : Nat) (v : Value) : KW w T x (y.setIfInBounds i v) (W.setCell ⟨w.heap.size + 1, i, none⟩ v) :=
  ⟨h.1.far (p := ⟨w.heap.size + 1, i, none⟩) (by simp) v, h.2.1.set_ i v, h.2.2.setCell (p := ⟨w.heap.size + 1, i, none⟩) (by simp) v⟩
theorem KW.put {w W : World} {T : TypeId} {x : Array Value} {u0 u1 u2 u3 u4 u5 : Value} (h : KW w T x #[u0, u1, u2, u3, u4, u5] W) (v0 v1 v2 v3 v4 v5 : Value) : KW w T x #[v0, v1, v2, v3, v4, v5] (put6 W (w.heap.size + 1) v0 v1 v2 v3 v4 v5) := by
  have := (((((h.set 0 v0).set 1 v1).set 2 v2).set 3 v3).set 4 v4).set 5 v5
  simp only [List.setIfInBounds_toArray, List.set_cons_zero, List.set_cons_succ] at this
  exact this
set_option maxRecDepth 100000 in
set_option maxHeartbeats 8000000 in
theorem pure_any (k : Int) (c m : Nat) (P : Option Addr) (ps : List Int) (pc : Nat) (s : ByteArray) (D : Option Addr) (dt : List Nat) (dc : Nat) (hp : ps.length ≤ maxLen) (w : World) (hr : RInts w P ps) (hd : RByt w D dt) :
    Calls Tryd.prog 119 #[.agg (tkC k (c : Int) (m : Int) P ps pc s D dt dc)] w fun e w' => e = .returned (.bool (pureB k c m ps s dt)) ∧ Below w.heap.size w w' := by
  have HR := Lib.hid hr; have HD := Lib.hid hd
  have HS := Lib.hid (fun k1 c1 m1 P1 ps1 pc1 s1 D1 dt1 dc1 h1 W g1 g2 => same_any k1 c1 m1 P1 ps1 pc1 s1 D1 dt1 dc1 k1 0 0 none [] 0 (ByteArray.mk #[]) none [] 0 h1 (by decide) W g1 (rints_nil W) g2 (rbyt_nil W))
  have HK := Lib.hid (KW.start w 102 (tkC k (c : Int) (m : Int) P ps pc s D dt dc) (tkC k (c : Int) (m : Int) P ps pc s D dt dc))
  have HP := Lib.hid hp
  clear hr hd hp
  unfold pureB
  unfold tkC at *
  simp only [List.length_nil] at HS
  by_cases k1 : k = 1
  · subst k1; rw [if_pos (.inl rfl)]
    go_enter Tryd.func119, Tryd.ntmps119
    go_upto_region 2 with fail
    generalize (w.alloc (.cells #[.int .i64 1, .int .u8 (c : Int), .int .u8 (m : Int), .slice P ps.length pc, .string s, .slice D dt.length dc] 102)).alloc (.cells #[.int .i64 1, .int .u8 (c : Int), .int .u8 (m : Int), .slice P ps.length pc, .string s, .slice D dt.length dc] 102) = w1 at *
    obtain ⟨a0, a1, a2, a3, a4, a5⟩ := six HK.out.1
    obtain ⟨b0, b1, b2, b3, b4, b5⟩ := six HK.out.2.1
    obtain ⟨f0, f1, f2, f3, f4, f5⟩ := six_fr HK.out.2.1
    have HK2 := Lib.hid (HK.out.set 1 (.int .u8 0))
    try simp only [List.setIfInBounds_toArray, List.set_cons_zero, List.set_cons_succ] at HK2
    skip
    go_upto_region 13 with fail
    clear a0 a1 a2 a3 a4 a5 b0 b1 b2 b3 b4 b5 f0 f1 f2 f3 f4 f5
    generalize w1.setCell ⟨w.heap.size + 1, 1, none⟩ (.int .u8 0) = w2 at *
    obtain ⟨a0, a1, a2, a3, a4, a5⟩ := six HK2.out.1
    obtain ⟨b0, b1, b2, b3, b4, b5⟩ := six HK2.out.2.1
    go_wp2_with fail
    refine (HS.out 1 0 (m : Int) P ps pc s D dt dc HP.out _ (HR.out.next HK2.out.2.2) (HD.out.next HK2.out.2.2)).mono ?_
    rintro e w3 ⟨rfl, hb3⟩
    have HB3 := Lib.hid (HK2.out.2.2.trans (hb3.mono HK2.out.2.2.size))
    clear hb3 a0 a1 a2 a3 a4 a5 b0 b1 b2 b3 b4 b5
    go_wp2_with fail
    go_ret
    exact ⟨rfl, HB3.out⟩
  by_cases k2 : k = 2
  · subst k2; rw [if_pos (.inr rfl)]
    go_enter Tryd.func119, Tryd.ntmps119
    go_upto_region 2 with fail
    generalize (w.alloc (.cells #[.int .i64 2, .int .u8 (c : Int), .int .u8 (m : Int), .slice P ps.length pc, .string s, .slice D dt.length dc] 102)).alloc (.cells #[.int .i64 2, .int .u8 (c : Int), .int .u8 (m : Int), .slice P ps.length pc, .string s, .slice D dt.length dc] 102) = w1 at *
    obtain ⟨a0, a1, a2, a3, a4, a5⟩ := six HK.out.1
    obtain ⟨b0, b1, b2, b3, b4, b5⟩ := six HK.out.2.1
    obtain ⟨f0, f1, f2, f3, f4, f5⟩ := six_fr HK.out.2.1
    have HK2 := Lib.hid (HK.out.set 1 (.int .u8 0))
    try simp only [List.setIfInBounds_toArray, List.set_cons_zero, List.set_cons_succ] at HK2
    skip
    go_upto_region 13 with fail
    clear a0 a1 a2 a3 a4 a5 b0 b1 b2 b3 b4 b5 f0 f1 f2 f3 f4 f5
    generalize w1.setCell ⟨w.heap.size + 1, 1, none⟩ (.int .u8 0) = w2 at *
    obtain ⟨a0, a1, a2, a3, a4, a5⟩ := six HK2.out.1
    obtain ⟨b0, b1, b2, b3, b4, b5⟩ := six HK2.out.2.1
    go_wp2_with fail
    refine (HS.out 2 0 (m : Int) P ps pc s D dt dc HP.out _ (HR.out.next HK2.out.2.2) (HD.out.next HK2.out.2.2)).mono ?_
    rintro e w3 ⟨rfl, hb3⟩
    have HB3 := Lib.hid (HK2.out.2.2.trans (hb3.mono HK2.out.2.2.size))
    clear hb3 a0 a1 a2 a3 a4 a5 b0 b1 b2 b3 b4 b5
    go_wp2_with fail
    go_ret
    exact ⟨rfl, HB3.out⟩
  rw [if_neg (by omega)]
  by_cases k3 : k = 3
  · subst k3; rw [if_pos rfl]
    go_enter Tryd.func119, Tryd.ntmps119
    go_upto_region 2 with fail
    generalize (w.alloc (.cells #[.int .i64 3, .int .u8 (c : Int), .int .u8 (m : Int), .slice P ps.length pc, .string s, .slice D dt.length dc] 102)).alloc (.cells #[.int .i64 3, .int .u8 (c : Int), .int .u8 (m : Int), .slice P ps.length pc, .string s, .slice D dt.length dc] 102) = w1 at *
    obtain ⟨a0, a1, a2, a3, a4, a5⟩ := six HK.out.1
    obtain ⟨b0, b1, b2, b3, b4, b5⟩ := six HK.out.2.1
    obtain ⟨f0, f1, f2, f3, f4, f5⟩ := six_fr HK.out.2.1
    have fz := (HK.out.2.1.set_ 1 (.int .u8 0)).frozen 4
    have cz := (HK.out.2.1.set_ 1 (.int .u8 0)).cell 4
    have cz2 := cz.trans (show _ = some (.string s) from rfl)
    clear cz
    have HK2 := Lib.hid ((HK.out.set 1 (.int .u8 0)).set 4 (.string (ByteArray.mk #[])))
    try simp only [List.setIfInBounds_toArray, List.set_cons_zero, List.set_cons_succ] at HK2
    skip
    go_upto_region 13 with fail
    clear a0 a1 a2 a3 a4 a5 b0 b1 b2 b3 b4 b5 f0 f1 f2 f3 f4 f5
    generalize (w1.setCell ⟨w.heap.size + 1, 1, none⟩ (.int .u8 0)).setCell ⟨w.heap.size + 1, 4, none⟩ (.string (ByteArray.mk #[])) = w2 at *
    obtain ⟨a0, a1, a2, a3, a4, a5⟩ := six HK2.out.1
    obtain ⟨b0, b1, b2, b3, b4, b5⟩ := six HK2.out.2.1
    go_wp2_with fail
    refine (HS.out 3 0 (m : Int) P ps pc (ByteArray.mk #[]) D dt dc HP.out _ (HR.out.next HK2.out.2.2) (HD.out.next HK2.out.2.2)).mono ?_
    rintro e w3 ⟨rfl, hb3⟩
    have HB3 := Lib.hid (HK2.out.2.2.trans (hb3.mono HK2.out.2.2.size))
    clear hb3 a0 a1 a2 a3 a4 a5 b0 b1 b2 b3 b4 b5
    go_wp2_with fail
    go_ret
    exact ⟨rfl, HB3.out⟩
  rw [if_neg k3]
  by_cases k4 : k = 4
  · subst k4; rw [if_pos rfl]
    go_enter Tryd.func119, Tryd.ntmps119
    go_upto_region 2 with fail
    generalize (w.alloc (.cells #[.int .i64 4, .int .u8 (c : Int), .int .u8 (m : Int), .slice P ps.length pc, .string s, .slice D dt.length dc] 102)).alloc (.cells #[.int .i64 4, .int .u8 (c : Int), .int .u8 (m : Int), .slice P ps.length pc, .string s, .slice D dt.length dc] 102) = w1 at *
    obtain ⟨a0, a1, a2, a3, a4, a5⟩ := six HK.out.1
    obtain ⟨b0, b1, b2, b3, b4, b5⟩ := six HK.out.2.1
    obtain ⟨f0, f1, f2, f3, f4, f5⟩ := six_fr HK.out.2.1
    have HK2 := Lib.hid (HK.out.put (.int .i64 4) (.int .u8 0) (.int .u8 0) (.slice none 0 0) (.string (ByteArray.mk #[])) (.slice D dt.length dc))
    try simp only [List.setIfInBounds_toArray, List.set_cons_zero, List.set_cons_succ] at HK2
    unfold put6 at HK2
    go_upto_region 13 with fail
    clear a0 a1 a2 a3 a4 a5 b0 b1 b2 b3 b4 b5 f0 f1 f2 f3 f4 f5
    generalize (((((w1.setCell ⟨w.heap.size + 1, 0, none⟩ (.int .i64 4)).setCell ⟨w.heap.size + 1, 1, none⟩ (.int .u8 0)).setCell ⟨w.heap.size + 1, 2, none⟩ (.int .u8 0)).setCell ⟨w.heap.size + 1, 3, none⟩ (.slice none 0 0)).setCell ⟨w.heap.size + 1, 4, none⟩ (.string (ByteArray.mk #[]))).setCell ⟨w.heap.size + 1, 5, none⟩ (.slice D dt.length dc) = w2 at *
    obtain ⟨a0, a1, a2, a3, a4, a5⟩ := six HK2.out.1
    obtain ⟨b0, b1, b2, b3, b4, b5⟩ := six HK2.out.2.1
    go_wp2_with fail
    refine (HS.out 4 0 0 none [] 0 (ByteArray.mk #[]) D dt dc (by decide) _ (rints_nil _) (HD.out.next HK2.out.2.2)).mono ?_
    rintro e w3 ⟨rfl, hb3⟩
    have HB3 := Lib.hid (HK2.out.2.2.trans (hb3.mono HK2.out.2.2.size))
    clear hb3 a0 a1 a2 a3 a4 a5 b0 b1 b2 b3 b4 b5
    go_wp2_with fail
    go_ret
    exact ⟨rfl, HB3.out⟩
  rw [if_neg k4]
  by_cases k5 : k = 5
  · subst k5; rw [if_pos rfl, ← pure5]
    go_enter Tryd.func119, Tryd.ntmps119
    go_upto_region 2 with fail
    generalize (w.alloc (.cells #[.int .i64 5, .int .u8 (c : Int), .int .u8 (m : Int), .slice P ps.length pc, .string s, .slice D dt.length dc] 102)).alloc (.cells #[.int .i64 5, .int .u8 (c : Int), .int .u8 (m : Int), .slice P ps.length pc, .string s, .slice D dt.length dc] 102) = w1 at *
    obtain ⟨a0, a1, a2, a3, a4, a5⟩ := six HK.out.1
    obtain ⟨b0, b1, b2, b3, b4, b5⟩ := six HK.out.2.1
    obtain ⟨f0, f1, f2, f3, f4, f5⟩ := six_fr HK.out.2.1
    have HK2 := Lib.hid (HK.out.put (.int .i64 5) (.int .u8 0) (.int .u8 0) (.slice none 0 0) (.string (ByteArray.mk #[])) (.slice none 0 0))
    try simp only [List.setIfInBounds_toArray, List.set_cons_zero, List.set_cons_succ] at HK2
    unfold put6 at HK2
    go_upto_region 13 with fail
    clear a0 a1 a2 a3 a4 a5 b0 b1 b2 b3 b4 b5 f0 f1 f2 f3 f4 f5
    generalize (((((w1.setCell ⟨w.heap.size + 1, 0, none⟩ (.int .i64 5)).setCell ⟨w.heap.size + 1, 1, none⟩ (.int .u8 0)).setCell ⟨w.heap.size + 1, 2, none⟩ (.int .u8 0)).setCell ⟨w.heap.size + 1, 3, none⟩ (.slice none 0 0)).setCell ⟨w.heap.size + 1, 4, none⟩ (.string (ByteArray.mk #[]))).setCell ⟨w.heap.size + 1, 5, none⟩ (.slice none 0 0) = w2 at *
    obtain ⟨a0, a1, a2, a3, a4, a5⟩ := six HK2.out.1
    obtain ⟨b0, b1, b2, b3, b4, b5⟩ := six HK2.out.2.1
    go_wp2_with fail
    refine (HS.out 5 0 0 none [] 0 (ByteArray.mk #[]) none [] 0 (by decide) _ (rints_nil _) (rbyt_nil _)).mono ?_
    rintro e w3 ⟨rfl, hb3⟩
    have HB3 := Lib.hid (HK2.out.2.2.trans (hb3.mono HK2.out.2.2.size))
    clear hb3 a0 a1 a2 a3 a4 a5 b0 b1 b2 b3 b4 b5
    go_wp2_with fail
    go_ret
    exact ⟨rfl, HB3.out⟩
  rw [if_neg k5]
  have n1 : (k == 1) = false := by simpa using k1
  have n2 : (k == 2) = false := by simpa using k2
  have n3 : (k == 3) = false := by simpa using k3
  have n4 : (k == 4) = false := by simpa using k4
  have n5 : (k == 5) = false := by simpa using k5
  clear k1 k2 k3 k4 k5
  go_enter Tryd.func119, Tryd.ntmps119
  go_upto_region 2 with fail
  generalize (w.alloc (.cells #[.int .i64 k, .int .u8 (c : Int), .int .u8 (m : Int), .slice P ps.length pc, .string s, .slice D dt.length dc] 102)).alloc (.cells #[.int .i64 k, .int .u8 (c : Int), .int .u8 (m : Int), .slice P ps.length pc, .string s, .slice D dt.length dc] 102) = w1 at *
  obtain ⟨a0, a1, a2, a3, a4, a5⟩ := six HK.out.1
  obtain ⟨b0, b1, b2, b3, b4, b5⟩ := six HK.out.2.1
  obtain ⟨f0, f1, f2, f3, f4, f5⟩ := six_fr HK.out.2.1
  have HK2 := Lib.hid (HK.out.set 5 (.slice none 0 0))
  try simp only [List.setIfInBounds_toArray, List.set_cons_zero, List.set_cons_succ] at HK2
  skip
  go_upto_region 13 with fail
  clear a0 a1 a2 a3 a4 a5 b0 b1 b2 b3 b4 b5 f0 f1 f2 f3 f4 f5
  generalize w1.setCell ⟨w.heap.size + 1, 5, none⟩ (.slice none 0 0) = w2 at *
  obtain ⟨a0, a1, a2, a3, a4, a5⟩ := six HK2.out.1
  obtain ⟨b0, b1, b2, b3, b4, b5⟩ := six HK2.out.2.1
  go_wp2_with fail
  refine (HS.out k (c : Int) (m : Int) P ps pc s none [] 0 HP.out _ (HR.out.next HK2.out.2.2) (rbyt_nil _)).mono ?_
  rintro e w3 ⟨rfl, hb3⟩
  have HB3 := Lib.hid (HK2.out.2.2.trans (hb3.mono HK2.out.2.2.size))
  clear hb3 a0 a1 a2 a3 a4 a5 b0 b1 b2 b3 b4 b5
  go_wp2_with fail
  go_ret
  exact ⟨rfl, HB3.out⟩
end Go.Proofs.YthldjjmfiaeekaaDoor

/-
  IsoOnce holds, whatever the input: the card of the statement, with the table of the sets' faces and the library's two tables of blanks tied to the program's text.
-/
import Derived.Test.YtmpbalocohoihaaDoorCards
import Derived.Test.YtmpbalocohoihaaDoorTie
import Derived.Test.YtmpbalocohoihaaDoorFrameW
import Derived.Test.YtmpbalocohoihaaDoorIsoF
import Derived.Test.YtmpbalocohoihaaDoorIsoH
import Derived.Test.YtmpbalocohoihaaDoorFrameJ
namespace Go.Proofs.YtmpbalocohoihaaDoor.isoOnce
open Go.ChangeShapes Go.WideShapes Go.ChangeAt Go.RowKit
open Go.ChangeMaps (open_string)

theorem and_low : ∀ n : Nat, n < 256 → bits .and .u8 (n : Int) 127 = ((n % 128 : Nat) : Int) := by decide +kernel
theorem map_zero (a b c d l r : Int) (n : Nat) : (mapP ⟨a, b, c, d, l, r, 0⟩ n).2 = ⟨a, b, c, d, l, r, 0⟩ := by
  unfold mapP
  split
  · rfl
  · rfl
theorem map_once (a b c d l r g : Int) (hg : g = 2 ∨ g = 3) (n : Nat) (h : ¬ n % 128 < 32) : mapP ⟨a, b, c, d, l, r, g⟩ n = (gP (setN (if g = 2 then c else d)) (n % 128), ⟨a, b, c, d, l, r, 0⟩) := by
  unfold mapP
  rw [if_neg h]
  rcases hg with rfl | rfl
  · rfl
  · rfl
set_option maxRecDepth 100000 in
set_option maxHeartbeats 16000000 in
theorem walk (a b c d l r s g : Int) (A : Option Addr) (len cap : Nat) (w : World) (ht : Faces w) (hs : Blanks w) (hb : RBy w A len) :
    Calls Tryd.prog 8 #[.agg #[.int .i64 a, .int .i64 b, .int .i64 c, .int .i64 d, .int .i64 l, .int .i64 r, .int .i64 s], .int .i64 g, .slice A len cap] w fun e w' => e = .returned (.bool true) ∧ Below w.heap.size w w' := by
  have HAw := Lib.hid (fun W t s => isoAwake_any W t s)
  have HT := Lib.hid ht; have HS := Lib.hid hs; have HBy := Lib.hid hb
  clear ht hs hb
  have HK0 := Lib.hid (show Below w.heap.size w (w.alloc (.cells #[.int .i64 a, .int .i64 b, .int .i64 c, .int .i64 d, .int .i64 l, .int .i64 r, .int .i64 s] 35)) from (Below.refl _ _).alloc (Nat.le_refl _) _)
  have HX0 := Lib.hid (Blk.new w 35 #[.int .i64 a, .int .i64 b, .int .i64 c, .int .i64 d, .int .i64 l, .int .i64 r, .int .i64 s])
  by_cases h2 : len < 2
  · have g0 : decide ((len : Int) < 2) = true := by simp; omega
    go_enter Tryd.func8, Tryd.ntmps8
    go_wp2_with fail
    refine (HAw.out _ (HT.out.next HK0.out) (HS.out.next HK0.out)).mono ?_
    rintro e w1 ⟨rfl, hb1⟩
    have HB1 := Lib.hid (HK0.out.trans (hb1.mono HK0.out.size))
    clear hb1
    go_wp2_with fail
    go_ret
    exact ⟨rfl, HB1.out⟩
  · have g0 : decide ((len : Int) < 2) = false := by simp; omega
    obtain ⟨ad, x, rfl, hx, hab, hc0⟩ := HBy.out 0 (by omega)
    obtain ⟨ad', y, e, hy, _, hc1⟩ := HBy.out 1 (by omega)
    obtain rfl := Option.some.inj e
    clear e HBy
    have HC := Lib.hid (fun W (h : Below w.heap.size w W) => (⟨(h.cell (p := ad.add 0) (by rw [block_of_add]; exact hab)).trans hc0, (h.cell (p := ad.add 1) (by rw [block_of_add]; exact hab)).trans hc1⟩ : W.cell? (ad.add 0) = some (.int .u8 x) ∧ W.cell? (ad.add 1) = some (.int .u8 y)))
    have hl0 : decide ((0 : Int) < (len : Int)) = true := by simp; omega
    have hl1 : decide ((1 : Int) < (len : Int)) = true := by simp; omega
    have hl2 : decide (0 < len) = true := by simp; omega
    have hl3 : decide (1 < len) = true := by simp; omega
    have hl4 : (0 : Int) < (len : Int) := by omega
    have hl5 : (1 : Int) < (len : Int) := by omega
    have hp0 : 0 < len := by omega
    have hp1 : 1 < len := by omega
    clear hc0 hc1 hab
    go_enter Tryd.func8, Tryd.ntmps8
    go_wp2_with fail
    refine (HAw.out _ (HT.out.next HK0.out) (HS.out.next HK0.out)).mono ?_
    rintro e w1 ⟨rfl, hb1⟩
    have HB1 := Lib.hid (HK0.out.trans (hb1.mono HK0.out.size)); have HX1 := Lib.hid (HX0.out.next hb1)
    clear hb1
    have HC1 := Lib.hid (fun w' (h : Only [] w1 w') => HC.out w' (HB1.out.trans (h.below0.mono HB1.out.size)))
    go_wp2_with fail
    refine wp_region_mix_lit (by kernel_rfl) [] (by kernel_rfl) (by kernel_rfl) (by kernel_rfl) (by rfl) (by simp [apartK] <;> omega) (by simp [startK]) (by simp [stabK]) (⟨fun _ => undef, by simp [okK]⟩) (fun β hβ => ?_)
    repeat (
      refine lex_val (v := ?_) rfl rfl (fun w' hf => ?_) ?_
      rotate_left
      · obtain ⟨m0, m1⟩ := HC1.out w' hf.only; have m2 : w'.cell? ad = some (.int .u8 x) := (by rw [← m0]; simp [Addr.add]); have m3 := m1; simp [Addr.add] at m3; go_simp
        try rfl
      try simp only [Act.put, List.setIfInBounds_toArray, List.set_cons_zero, List.set_cons_succ])
    refine lex_nil fun W2 he => ?_
    have HB2 := Lib.hid (HB1.out.trans (he.only.below0.mono HB1.out.size)); have HX2 := Lib.hid (HX1.out.next he.only.below0)
    clear he HC1 HC HX1
    obtain ⟨c0, c1, c2, c3, c4, c5, c6⟩ := seven HX2.out
    obtain ⟨f0, f1, f2, f3, f4, f5, f6⟩ := seven_fr HX2.out
    have HOw : Hid (∀ W, Calls Tryd.prog 24 #[.agg #[.int .i64 a, .int .i64 b, .int .i64 c, .int .i64 d, .int .i64 l, .int .i64 r, .int .i64 0]] W fun e w' => e = .returned (.agg #[.int .i64 a, .int .i64 b, .int .i64 c, .int .i64 d, .int .i64 l, .int .i64 r, .int .i64 0]) ∧ Below W.heap.size W w') := Lib.hid (fun W => lawOwn_any ⟨a, b, c, d, l, r, 0⟩ W)
    have hlow := and_low x hx
    have HFd : Hid (∀ (z : Int) W, (Instr.field 37 (.agg #[.int .i64 a, .int .i64 b, .int .i64 c, .int .i64 d, .int .i64 l, .int .i64 r, .int .i64 z]) 3).run Tryd.prog W = .ok (.int .i64 z) W) := Lib.hid (fun z W => by kernel_rfl)
    go_wp2_with fail
    have HX3 := Lib.hid (HX2.out.set_ 6 (.int .i64 0))
    simp only [List.setIfInBounds_toArray, List.set_cons_zero, List.set_cons_succ] at HX3
    have HB3 := Lib.hid (HB2.out.setCell (p := ⟨w.heap.size, 6, none⟩) (Nat.le_refl _) (.int .i64 0))
    generalize W2.setCell ⟨w.heap.size, 6, none⟩ (.int .i64 0) = W3 at *
    clear c0 c1 c2 c3 c4 c5 c6 f0 f1 f2 f3 f4 f5 f6 HX2 HB2
    refine (HOw.out _).mono ?_
    rintro e w4 ⟨rfl, hb4⟩
    have HX4 := Lib.hid (HX3.out.next hb4); have HB4 := Lib.hid (HB3.out.trans (hb4.mono HB3.out.size))
    clear hb4 HX3 HB3 HOw
    have HX5 := Lib.hid (Blk.alloc HX4.out (.cells #[.int .i64 a, .int .i64 b, .int .i64 c, .int .i64 d, .int .i64 l, .int .i64 r, .int .i64 0] 37)); have HB5 := Lib.hid (HB4.out.alloc HB4.out.size (.cells #[.int .i64 a, .int .i64 b, .int .i64 c, .int .i64 d, .int .i64 l, .int .i64 r, .int .i64 0] 37))
    have H95 := Lib.hid (Blk.new w4 37 #[.int .i64 a, .int .i64 b, .int .i64 c, .int .i64 d, .int .i64 l, .int .i64 r, .int .i64 0])
    have HF5 := Lib.hid (HT.out.below HT.out.1 HB5.out)
    have hgc : (decide (g < 2) = true ∧ sinB g = false) ∨ (decide (g < 2) = false ∧ decide (3 < g) = true ∧ sinB g = false) ∨ g = 2 ∨ g = 3 := by
      unfold sinB
      by_cases h1 : g < 2
      · exact .inl ⟨by simpa using h1, by simp; omega⟩
      · by_cases h3 : 3 < g
        · exact .inr (.inl ⟨by simpa using h1, by simpa using h3, by simp; omega⟩)
        · exact .inr (.inr (by omega))
    have HM1 := Lib.hid (fun (z : Int) W t => map_any ⟨a, b, c, d, l, r, z⟩ x hx W t)
    have HM2 := Lib.hid (fun W t => map_any ⟨a, b, c, d, l, r, 0⟩ y hy W t)
    have HM7 := Lib.hid (fun (z : Int) W t => map_any ⟨a, b, c, d, l, r, z⟩ 7 (by omega) W t)
    have HOn := Lib.hid (fun W => isoOnce_any ⟨a, b, c, d, l, r, 0⟩ g W)
    clear HX4
    rcases hgc with ⟨g1, gs⟩ | ⟨g1, g3, gs⟩ | hg
    · have HO : Hid (∀ W, Calls Tryd.prog 25 #[.agg #[.int .i64 a, .int .i64 b, .int .i64 c, .int .i64 d, .int .i64 l, .int .i64 r, .int .i64 0], .int .i64 g] W fun e w' => e = .returned (.agg #[.int .i64 a, .int .i64 b, .int .i64 c, .int .i64 d, .int .i64 l, .int .i64 r, .int .i64 0]) ∧ Below W.heap.size W w') := Lib.hid (fun W => by
        have := HOn.out W
        unfold onceI at this
        rw [gs, if_neg (by simp)] at this
        exact this)
      have hfd := HFd.out 0
      clear HM1 HM2 HM7 HOn HFd
      go_wp2_with fail
      refine (HO.out _).mono ?_
      rintro e w6 ⟨rfl, hb6⟩
      have HB6 := Lib.hid (HB5.out.trans (hb6.mono HB5.out.size))
      clear hb6
      go_wp2_with fail
      go_ret
      exact ⟨rfl, HB6.out⟩
    · have HO : Hid (∀ W, Calls Tryd.prog 25 #[.agg #[.int .i64 a, .int .i64 b, .int .i64 c, .int .i64 d, .int .i64 l, .int .i64 r, .int .i64 0], .int .i64 g] W fun e w' => e = .returned (.agg #[.int .i64 a, .int .i64 b, .int .i64 c, .int .i64 d, .int .i64 l, .int .i64 r, .int .i64 0]) ∧ Below W.heap.size W w') := Lib.hid (fun W => by
        have := HOn.out W
        unfold onceI at this
        rw [gs, if_neg (by simp)] at this
        exact this)
      have hfd := HFd.out 0
      clear HM1 HM2 HM7 HOn HFd
      go_wp2_with fail
      refine (HO.out _).mono ?_
      rintro e w6 ⟨rfl, hb6⟩
      have HB6 := Lib.hid (HB5.out.trans (hb6.mono HB5.out.size))
      clear hb6
      go_wp2_with fail
      go_ret
      exact ⟨rfl, HB6.out⟩
    · rcases hg with rfl | rfl
      · have HO : Hid (∀ W, Calls Tryd.prog 25 #[.agg #[.int .i64 a, .int .i64 b, .int .i64 c, .int .i64 d, .int .i64 l, .int .i64 r, .int .i64 0], .int .i64 2] W fun e w' => e = .returned (.agg #[.int .i64 a, .int .i64 b, .int .i64 c, .int .i64 d, .int .i64 l, .int .i64 r, .int .i64 2]) ∧ Below W.heap.size W w') := Lib.hid (fun W => HOn.out W)
        have hfd := HFd.out 2
        clear HOn HFd
        by_cases h32 : x % 128 < 32
        · have g5 : decide (((x % 128 : Nat) : Int) < 32) = true := by simp; omega
          clear HM1 HM2 HM7
          generalize ((x % 128 : Nat) : Int) = xm at *
          go_wp2_with fail
          refine (HO.out _).mono ?_
          rintro e w6 ⟨rfl, hb6⟩
          have HB6 := Lib.hid (HB5.out.trans (hb6.mono HB5.out.size))
          clear hb6
          go_wp2_with fail
          go_ret
          exact ⟨rfl, HB6.out⟩
        · have g5 : decide (((x % 128 : Nat) : Int) < 32) = false := by simp; omega
          have hm1 := map_once a b c d l r 2 (by decide) x h32
          have HMa : Hid (∀ W, Faces W → Calls Tryd.prog 26 #[.agg #[.int .i64 a, .int .i64 b, .int .i64 c, .int .i64 d, .int .i64 l, .int .i64 r, .int .i64 2], .int .u8 x] W fun e w' => e = .returned (.tuple #[.int .i32 (gP (setN c) (x % 128)), .agg #[.int .i64 a, .int .i64 b, .int .i64 c, .int .i64 d, .int .i64 l, .int .i64 r, .int .i64 0]]) ∧ Below W.heap.size W w') := Lib.hid (fun W t => by
            have := HM1.out 2 W t
            rw [hm1] at this
            exact this)
          have HMb : Hid (∀ W, Faces W → Calls Tryd.prog 26 #[.agg #[.int .i64 a, .int .i64 b, .int .i64 c, .int .i64 d, .int .i64 l, .int .i64 r, .int .i64 0], .int .u8 y] W fun e w' => e = .returned (.tuple #[.int .i32 (mapP ⟨a, b, c, d, l, r, 0⟩ y).1, .agg #[.int .i64 a, .int .i64 b, .int .i64 c, .int .i64 d, .int .i64 l, .int .i64 r, .int .i64 0]]) ∧ Below W.heap.size W w') := Lib.hid (fun W t => by
            have := HM2.out W t
            unfold mapV at this
            rw [map_zero] at this
            exact this)
          have HMc : Hid (∀ W, Faces W → Calls Tryd.prog 26 #[.agg #[.int .i64 a, .int .i64 b, .int .i64 c, .int .i64 d, .int .i64 l, .int .i64 r, .int .i64 2], .int .u8 7] W fun e w' => e = .returned (.tuple #[.int .i32 0, .agg #[.int .i64 a, .int .i64 b, .int .i64 c, .int .i64 d, .int .i64 l, .int .i64 r, .int .i64 2]]) ∧ Below W.heap.size W w') := Lib.hid (fun W t => HM7.out 2 W t)
          have HIn : Hid (∀ W, Calls Tryd.prog 28 #[.agg #[.int .i64 a, .int .i64 b, .int .i64 c, .int .i64 d, .int .i64 l, .int .i64 r, .int .i64 0], .int .i64 3, .int .i64 2] W fun e w' => e = .returned (.agg #[.int .i64 a, .int .i64 b, .int .i64 c, .int .i64 d, .int .i64 l, .int .i64 r, .int .i64 2]) ∧ Below W.heap.size W w') := Lib.hid (fun W => invoke_once ⟨a, b, c, d, l, r, 0⟩ 2 (by decide) W)
          have HRM : Hid (∀ W, Calls Tryd.prog 27 #[.agg #[.int .i64 a, .int .i64 b, .int .i64 c, .int .i64 d, .int .i64 l, .int .i64 r, .int .i64 2], .int .u8 x] W fun e w' => e = .returned (.tuple #[.int .i32 (gP (setN c) (x % 128)), .agg #[.int .i64 a, .int .i64 b, .int .i64 c, .int .i64 d, .int .i64 l, .int .i64 r, .int .i64 0]]) ∧ Below W.heap.size W w') := Lib.hid (fun W => refMap_once a b c d l r 2 (by decide) x hx (by omega) W)
          have hei : ∀ W, _ := fun W => eql_iso W a b c d l r 0
          have hgi : ∀ W p q xs ys, _ := fun W p q xs ys => guard_iso W .eql p q xs ys
          clear HM1 HM2 HM7 hm1
          generalize gP (setN c) (x % 128) = gl at *
          generalize (mapP ⟨a, b, c, d, l, r, 0⟩ y).1 = gm at *
          generalize ((x % 128 : Nat) : Int) = xm at *
          have HN5 := H95
          clear H95 HF5
          go_wp2_with fail
          generalize w4.heap.size = p9 at *
          generalize w4.alloc (.cells #[.int .i64 a, .int .i64 b, .int .i64 c, .int .i64 d, .int .i64 l, .int .i64 r, .int .i64 0] 37) = w5 at *
          refine (HO.out _).mono ?_
          rintro e w6 ⟨rfl, hb⟩
          have HX6 := Lib.hid (HX5.out.next hb)
          have HN6 := Lib.hid (HN5.out.next hb)
          have HB6 := Lib.hid (HB5.out.trans (hb.mono HB5.out.size))
          clear hb HX5 HN5 HB5
          have HF := Lib.hid (HT.out.below HT.out.1 HB6.out)
          go_wp2_with fail
          refine (HMa.out _ HF.out).mono ?_
          rintro e w7 ⟨rfl, hb⟩
          have HX7 := Lib.hid (HX6.out.next hb)
          have HN7 := Lib.hid (HN6.out.next hb)
          have HB7 := Lib.hid (HB6.out.trans (hb.mono HB6.out.size))
          clear hb HX6 HN6 HB6
          clear HF
          have HX8 := Lib.hid (Blk.alloc HX7.out (.cells #[.int .i64 a, .int .i64 b, .int .i64 c, .int .i64 d, .int .i64 l, .int .i64 r, .int .i64 0] 37))
          have HN8 := Lib.hid (Blk.alloc HN7.out (.cells #[.int .i64 a, .int .i64 b, .int .i64 c, .int .i64 d, .int .i64 l, .int .i64 r, .int .i64 0] 37))
          have HP8 := Lib.hid (Blk.new w7 37 #[.int .i64 a, .int .i64 b, .int .i64 c, .int .i64 d, .int .i64 l, .int .i64 r, .int .i64 0])
          have HB8 := Lib.hid (HB7.out.alloc HB7.out.size (.cells #[.int .i64 a, .int .i64 b, .int .i64 c, .int .i64 d, .int .i64 l, .int .i64 r, .int .i64 0] 37))
          clear HX7 HN7 HB7
          go_wp2_with fail
          generalize w7.alloc (.cells #[.int .i64 a, .int .i64 b, .int .i64 c, .int .i64 d, .int .i64 l, .int .i64 r, .int .i64 0] 37) = w8 at *
          have HF := Lib.hid (HT.out.below HT.out.1 HB8.out)
          refine (HMb.out _ HF.out).mono ?_
          rintro e w9 ⟨rfl, hb⟩
          have HX9 := Lib.hid (HX8.out.next hb)
          have HN9 := Lib.hid (HN8.out.next hb)
          have HP9 := Lib.hid (HP8.out.next hb)
          have HB9 := Lib.hid (HB8.out.trans (hb.mono HB8.out.size))
          clear hb HX8 HN8 HP8 HB8
          clear HF
          have HX10 := Lib.hid (Blk.alloc HX9.out (.cells #[.int .i64 a, .int .i64 b, .int .i64 c, .int .i64 d, .int .i64 l, .int .i64 r, .int .i64 0] 37))
          have HN10 := Lib.hid (Blk.alloc HN9.out (.cells #[.int .i64 a, .int .i64 b, .int .i64 c, .int .i64 d, .int .i64 l, .int .i64 r, .int .i64 0] 37))
          have HP10 := Lib.hid (Blk.alloc HP9.out (.cells #[.int .i64 a, .int .i64 b, .int .i64 c, .int .i64 d, .int .i64 l, .int .i64 r, .int .i64 0] 37))
          have HQ10 := Lib.hid (Blk.new w9 37 #[.int .i64 a, .int .i64 b, .int .i64 c, .int .i64 d, .int .i64 l, .int .i64 r, .int .i64 0])
          have HB10 := Lib.hid (HB9.out.alloc HB9.out.size (.cells #[.int .i64 a, .int .i64 b, .int .i64 c, .int .i64 d, .int .i64 l, .int .i64 r, .int .i64 0] 37))
          clear HX9 HN9 HP9 HB9
          obtain ⟨c00, c01, c02, c03, c04, c05, c06⟩ := seven HN10.out
          obtain ⟨f00, f01, f02, f03, f04, f05, f06⟩ := seven_fr HN10.out
          go_wp2_with fail
          clear c00 c01 c02 c03 c04 c05 c06 f00 f01 f02 f03 f04 f05 f06
          generalize w9.alloc (.cells #[.int .i64 a, .int .i64 b, .int .i64 c, .int .i64 d, .int .i64 l, .int .i64 r, .int .i64 0] 37) = w10 at *
          have HF := Lib.hid (HT.out.below HT.out.1 HB10.out)
          refine (HMb.out _ HF.out).mono ?_
          rintro e w11 ⟨rfl, hb⟩
          have HX11 := Lib.hid (HX10.out.next hb)
          have HN11 := Lib.hid (HN10.out.next hb)
          have HP11 := Lib.hid (HP10.out.next hb)
          have HQ11 := Lib.hid (HQ10.out.next hb)
          have HB11 := Lib.hid (HB10.out.trans (hb.mono HB10.out.size))
          clear hb HX10 HN10 HP10 HQ10 HB10
          clear HF
          have HX12 := Lib.hid (Blk.alloc HX11.out (.cells #[.int .i64 a, .int .i64 b, .int .i64 c, .int .i64 d, .int .i64 l, .int .i64 r, .int .i64 0] 37))
          have HN12 := Lib.hid (Blk.alloc HN11.out (.cells #[.int .i64 a, .int .i64 b, .int .i64 c, .int .i64 d, .int .i64 l, .int .i64 r, .int .i64 0] 37))
          have HP12 := Lib.hid (Blk.alloc HP11.out (.cells #[.int .i64 a, .int .i64 b, .int .i64 c, .int .i64 d, .int .i64 l, .int .i64 r, .int .i64 0] 37))
          have HQ12 := Lib.hid (Blk.alloc HQ11.out (.cells #[.int .i64 a, .int .i64 b, .int .i64 c, .int .i64 d, .int .i64 l, .int .i64 r, .int .i64 0] 37))
          have HU12 := Lib.hid (Blk.new w11 37 #[.int .i64 a, .int .i64 b, .int .i64 c, .int .i64 d, .int .i64 l, .int .i64 r, .int .i64 0])
          have HB12 := Lib.hid (HB11.out.alloc HB11.out.size (.cells #[.int .i64 a, .int .i64 b, .int .i64 c, .int .i64 d, .int .i64 l, .int .i64 r, .int .i64 0] 37))
          clear HX11 HN11 HP11 HQ11 HB11
          obtain ⟨c00, c01, c02, c03, c04, c05, c06⟩ := seven HN12.out
          obtain ⟨f00, f01, f02, f03, f04, f05, f06⟩ := seven_fr HN12.out
          go_wp2_with fail
          clear c00 c01 c02 c03 c04 c05 c06 f00 f01 f02 f03 f04 f05 f06
          generalize w11.alloc (.cells #[.int .i64 a, .int .i64 b, .int .i64 c, .int .i64 d, .int .i64 l, .int .i64 r, .int .i64 0] 37) = w12 at *
          refine (HO.out _).mono ?_
          rintro e w13 ⟨rfl, hb⟩
          have HX13 := Lib.hid (HX12.out.next hb)
          have HN13 := Lib.hid (HN12.out.next hb)
          have HP13 := Lib.hid (HP12.out.next hb)
          have HQ13 := Lib.hid (HQ12.out.next hb)
          have HU13 := Lib.hid (HU12.out.next hb)
          have HB13 := Lib.hid (HB12.out.trans (hb.mono HB12.out.size))
          clear hb HX12 HN12 HP12 HQ12 HU12 HB12
          have HF := Lib.hid (HT.out.below HT.out.1 HB13.out)
          go_wp2_with fail
          refine (HMc.out _ HF.out).mono ?_
          rintro e w14 ⟨rfl, hb⟩
          have HX14 := Lib.hid (HX13.out.next hb)
          have HN14 := Lib.hid (HN13.out.next hb)
          have HP14 := Lib.hid (HP13.out.next hb)
          have HQ14 := Lib.hid (HQ13.out.next hb)
          have HU14 := Lib.hid (HU13.out.next hb)
          have HB14 := Lib.hid (HB13.out.trans (hb.mono HB13.out.size))
          clear hb HX13 HN13 HP13 HQ13 HU13 HB13
          clear HF
          have HX15 := Lib.hid (Blk.alloc HX14.out (.cells #[.int .i64 a, .int .i64 b, .int .i64 c, .int .i64 d, .int .i64 l, .int .i64 r, .int .i64 2] 37))
          have HN15 := Lib.hid (Blk.alloc HN14.out (.cells #[.int .i64 a, .int .i64 b, .int .i64 c, .int .i64 d, .int .i64 l, .int .i64 r, .int .i64 2] 37))
          have HP15 := Lib.hid (Blk.alloc HP14.out (.cells #[.int .i64 a, .int .i64 b, .int .i64 c, .int .i64 d, .int .i64 l, .int .i64 r, .int .i64 2] 37))
          have HQ15 := Lib.hid (Blk.alloc HQ14.out (.cells #[.int .i64 a, .int .i64 b, .int .i64 c, .int .i64 d, .int .i64 l, .int .i64 r, .int .i64 2] 37))
          have HU15 := Lib.hid (Blk.alloc HU14.out (.cells #[.int .i64 a, .int .i64 b, .int .i64 c, .int .i64 d, .int .i64 l, .int .i64 r, .int .i64 2] 37))
          have HV15 := Lib.hid (Blk.new w14 37 #[.int .i64 a, .int .i64 b, .int .i64 c, .int .i64 d, .int .i64 l, .int .i64 r, .int .i64 2])
          have HB15 := Lib.hid (HB14.out.alloc HB14.out.size (.cells #[.int .i64 a, .int .i64 b, .int .i64 c, .int .i64 d, .int .i64 l, .int .i64 r, .int .i64 2] 37))
          clear HX14 HN14 HP14 HQ14 HU14 HB14
          obtain ⟨c00, c01, c02, c03, c04, c05, c06⟩ := seven HX15.out
          obtain ⟨f00, f01, f02, f03, f04, f05, f06⟩ := seven_fr HX15.out
          go_wp2_with fail
          clear c00 c01 c02 c03 c04 c05 c06 f00 f01 f02 f03 f04 f05 f06
          generalize w14.alloc (.cells #[.int .i64 a, .int .i64 b, .int .i64 c, .int .i64 d, .int .i64 l, .int .i64 r, .int .i64 2] 37) = w15 at *
          refine (HIn.out _).mono ?_
          rintro e w16 ⟨rfl, hb⟩
          have HX16 := Lib.hid (HX15.out.next hb)
          have HN16 := Lib.hid (HN15.out.next hb)
          have HP16 := Lib.hid (HP15.out.next hb)
          have HQ16 := Lib.hid (HQ15.out.next hb)
          have HU16 := Lib.hid (HU15.out.next hb)
          have HV16 := Lib.hid (HV15.out.next hb)
          have HB16 := Lib.hid (HB15.out.trans (hb.mono HB15.out.size))
          clear hb HX15 HN15 HP15 HQ15 HU15 HV15 HB15
          go_wp2_with fail
          refine (HRM.out _).mono ?_
          rintro e w17 ⟨rfl, hb⟩
          have HX17 := Lib.hid (HX16.out.next hb)
          have HN17 := Lib.hid (HN16.out.next hb)
          have HP17 := Lib.hid (HP16.out.next hb)
          have HQ17 := Lib.hid (HQ16.out.next hb)
          have HU17 := Lib.hid (HU16.out.next hb)
          have HV17 := Lib.hid (HV16.out.next hb)
          have HB17 := Lib.hid (HB16.out.trans (hb.mono HB16.out.size))
          clear hb HX16 HN16 HP16 HQ16 HU16 HV16 HB16
          have HX18 := Lib.hid (Blk.alloc HX17.out (.cells #[.int .i64 a, .int .i64 b, .int .i64 c, .int .i64 d, .int .i64 l, .int .i64 r, .int .i64 0] 35))
          have HN18 := Lib.hid (Blk.alloc HN17.out (.cells #[.int .i64 a, .int .i64 b, .int .i64 c, .int .i64 d, .int .i64 l, .int .i64 r, .int .i64 0] 35))
          have HP18 := Lib.hid (Blk.alloc HP17.out (.cells #[.int .i64 a, .int .i64 b, .int .i64 c, .int .i64 d, .int .i64 l, .int .i64 r, .int .i64 0] 35))
          have HQ18 := Lib.hid (Blk.alloc HQ17.out (.cells #[.int .i64 a, .int .i64 b, .int .i64 c, .int .i64 d, .int .i64 l, .int .i64 r, .int .i64 0] 35))
          have HU18 := Lib.hid (Blk.alloc HU17.out (.cells #[.int .i64 a, .int .i64 b, .int .i64 c, .int .i64 d, .int .i64 l, .int .i64 r, .int .i64 0] 35))
          have HV18 := Lib.hid (Blk.alloc HV17.out (.cells #[.int .i64 a, .int .i64 b, .int .i64 c, .int .i64 d, .int .i64 l, .int .i64 r, .int .i64 0] 35))
          have HY18 := Lib.hid (Blk.new w17 35 #[.int .i64 a, .int .i64 b, .int .i64 c, .int .i64 d, .int .i64 l, .int .i64 r, .int .i64 0])
          have HB18 := Lib.hid (HB17.out.alloc HB17.out.size (.cells #[.int .i64 a, .int .i64 b, .int .i64 c, .int .i64 d, .int .i64 l, .int .i64 r, .int .i64 0] 35))
          clear HX17 HN17 HP17 HQ17 HU17 HV17 HB17
          obtain ⟨c00, c01, c02, c03, c04, c05, c06⟩ := seven HN18.out
          obtain ⟨f00, f01, f02, f03, f04, f05, f06⟩ := seven_fr HN18.out
          obtain ⟨c10, c11, c12, c13, c14, c15, c16⟩ := seven HP18.out
          obtain ⟨f10, f11, f12, f13, f14, f15, f16⟩ := seven_fr HP18.out
          obtain ⟨c20, c21, c22, c23, c24, c25, c26⟩ := seven HQ18.out
          obtain ⟨f20, f21, f22, f23, f24, f25, f26⟩ := seven_fr HQ18.out
          obtain ⟨c30, c31, c32, c33, c34, c35, c36⟩ := seven HU18.out
          obtain ⟨f30, f31, f32, f33, f34, f35, f36⟩ := seven_fr HU18.out
          obtain ⟨c40, c41, c42, c43, c44, c45, c46⟩ := seven HV18.out
          obtain ⟨f40, f41, f42, f43, f44, f45, f46⟩ := seven_fr HV18.out
          go_wp2_with fail
          go_ret
          exact ⟨rfl, HB18.out⟩
      · have HO : Hid (∀ W, Calls Tryd.prog 25 #[.agg #[.int .i64 a, .int .i64 b, .int .i64 c, .int .i64 d, .int .i64 l, .int .i64 r, .int .i64 0], .int .i64 3] W fun e w' => e = .returned (.agg #[.int .i64 a, .int .i64 b, .int .i64 c, .int .i64 d, .int .i64 l, .int .i64 r, .int .i64 3]) ∧ Below W.heap.size W w') := Lib.hid (fun W => HOn.out W)
        have hfd := HFd.out 3
        clear HOn HFd
        by_cases h32 : x % 128 < 32
        · have g5 : decide (((x % 128 : Nat) : Int) < 32) = true := by simp; omega
          clear HM1 HM2 HM7
          generalize ((x % 128 : Nat) : Int) = xm at *
          go_wp2_with fail
          refine (HO.out _).mono ?_
          rintro e w6 ⟨rfl, hb6⟩
          have HB6 := Lib.hid (HB5.out.trans (hb6.mono HB5.out.size))
          clear hb6
          go_wp2_with fail
          go_ret
          exact ⟨rfl, HB6.out⟩
        · have g5 : decide (((x % 128 : Nat) : Int) < 32) = false := by simp; omega
          have hm1 := map_once a b c d l r 3 (by decide) x h32
          have HMa : Hid (∀ W, Faces W → Calls Tryd.prog 26 #[.agg #[.int .i64 a, .int .i64 b, .int .i64 c, .int .i64 d, .int .i64 l, .int .i64 r, .int .i64 3], .int .u8 x] W fun e w' => e = .returned (.tuple #[.int .i32 (gP (setN d) (x % 128)), .agg #[.int .i64 a, .int .i64 b, .int .i64 c, .int .i64 d, .int .i64 l, .int .i64 r, .int .i64 0]]) ∧ Below W.heap.size W w') := Lib.hid (fun W t => by
            have := HM1.out 3 W t
            rw [hm1] at this
            exact this)
          have HMb : Hid (∀ W, Faces W → Calls Tryd.prog 26 #[.agg #[.int .i64 a, .int .i64 b, .int .i64 c, .int .i64 d, .int .i64 l, .int .i64 r, .int .i64 0], .int .u8 y] W fun e w' => e = .returned (.tuple #[.int .i32 (mapP ⟨a, b, c, d, l, r, 0⟩ y).1, .agg #[.int .i64 a, .int .i64 b, .int .i64 c, .int .i64 d, .int .i64 l, .int .i64 r, .int .i64 0]]) ∧ Below W.heap.size W w') := Lib.hid (fun W t => by
            have := HM2.out W t
            unfold mapV at this
            rw [map_zero] at this
            exact this)
          have HMc : Hid (∀ W, Faces W → Calls Tryd.prog 26 #[.agg #[.int .i64 a, .int .i64 b, .int .i64 c, .int .i64 d, .int .i64 l, .int .i64 r, .int .i64 3], .int .u8 7] W fun e w' => e = .returned (.tuple #[.int .i32 0, .agg #[.int .i64 a, .int .i64 b, .int .i64 c, .int .i64 d, .int .i64 l, .int .i64 r, .int .i64 3]]) ∧ Below W.heap.size W w') := Lib.hid (fun W t => HM7.out 3 W t)
          have HIn : Hid (∀ W, Calls Tryd.prog 28 #[.agg #[.int .i64 a, .int .i64 b, .int .i64 c, .int .i64 d, .int .i64 l, .int .i64 r, .int .i64 0], .int .i64 3, .int .i64 3] W fun e w' => e = .returned (.agg #[.int .i64 a, .int .i64 b, .int .i64 c, .int .i64 d, .int .i64 l, .int .i64 r, .int .i64 3]) ∧ Below W.heap.size W w') := Lib.hid (fun W => invoke_once ⟨a, b, c, d, l, r, 0⟩ 3 (by decide) W)
          have HRM : Hid (∀ W, Calls Tryd.prog 27 #[.agg #[.int .i64 a, .int .i64 b, .int .i64 c, .int .i64 d, .int .i64 l, .int .i64 r, .int .i64 3], .int .u8 x] W fun e w' => e = .returned (.tuple #[.int .i32 (gP (setN d) (x % 128)), .agg #[.int .i64 a, .int .i64 b, .int .i64 c, .int .i64 d, .int .i64 l, .int .i64 r, .int .i64 0]]) ∧ Below W.heap.size W w') := Lib.hid (fun W => refMap_once a b c d l r 3 (by decide) x hx (by omega) W)
          have hei : ∀ W, _ := fun W => eql_iso W a b c d l r 0
          have hgi : ∀ W p q xs ys, _ := fun W p q xs ys => guard_iso W .eql p q xs ys
          clear HM1 HM2 HM7 hm1
          generalize gP (setN d) (x % 128) = gl at *
          generalize (mapP ⟨a, b, c, d, l, r, 0⟩ y).1 = gm at *
          generalize ((x % 128 : Nat) : Int) = xm at *
          have HN5 := H95
          clear H95 HF5
          go_wp2_with fail
          generalize w4.heap.size = p9 at *
          generalize w4.alloc (.cells #[.int .i64 a, .int .i64 b, .int .i64 c, .int .i64 d, .int .i64 l, .int .i64 r, .int .i64 0] 37) = w5 at *
          refine (HO.out _).mono ?_
          rintro e w6 ⟨rfl, hb⟩
          have HX6 := Lib.hid (HX5.out.next hb)
          have HN6 := Lib.hid (HN5.out.next hb)
          have HB6 := Lib.hid (HB5.out.trans (hb.mono HB5.out.size))
          clear hb HX5 HN5 HB5
          have HF := Lib.hid (HT.out.below HT.out.1 HB6.out)
          go_wp2_with fail
          refine (HMa.out _ HF.out).mono ?_
          rintro e w7 ⟨rfl, hb⟩
          have HX7 := Lib.hid (HX6.out.next hb)
          have HN7 := Lib.hid (HN6.out.next hb)
          have HB7 := Lib.hid (HB6.out.trans (hb.mono HB6.out.size))
          clear hb HX6 HN6 HB6
          clear HF
          have HX8 := Lib.hid (Blk.alloc HX7.out (.cells #[.int .i64 a, .int .i64 b, .int .i64 c, .int .i64 d, .int .i64 l, .int .i64 r, .int .i64 0] 37))
          have HN8 := Lib.hid (Blk.alloc HN7.out (.cells #[.int .i64 a, .int .i64 b, .int .i64 c, .int .i64 d, .int .i64 l, .int .i64 r, .int .i64 0] 37))
          have HP8 := Lib.hid (Blk.new w7 37 #[.int .i64 a, .int .i64 b, .int .i64 c, .int .i64 d, .int .i64 l, .int .i64 r, .int .i64 0])
          have HB8 := Lib.hid (HB7.out.alloc HB7.out.size (.cells #[.int .i64 a, .int .i64 b, .int .i64 c, .int .i64 d, .int .i64 l, .int .i64 r, .int .i64 0] 37))
          clear HX7 HN7 HB7
          go_wp2_with fail
          generalize w7.alloc (.cells #[.int .i64 a, .int .i64 b, .int .i64 c, .int .i64 d, .int .i64 l, .int .i64 r, .int .i64 0] 37) = w8 at *
          have HF := Lib.hid (HT.out.below HT.out.1 HB8.out)
          refine (HMb.out _ HF.out).mono ?_
          rintro e w9 ⟨rfl, hb⟩
          have HX9 := Lib.hid (HX8.out.next hb)
          have HN9 := Lib.hid (HN8.out.next hb)
          have HP9 := Lib.hid (HP8.out.next hb)
          have HB9 := Lib.hid (HB8.out.trans (hb.mono HB8.out.size))
          clear hb HX8 HN8 HP8 HB8
          clear HF
          have HX10 := Lib.hid (Blk.alloc HX9.out (.cells #[.int .i64 a, .int .i64 b, .int .i64 c, .int .i64 d, .int .i64 l, .int .i64 r, .int .i64 0] 37))
          have HN10 := Lib.hid (Blk.alloc HN9.out (.cells #[.int .i64 a, .int .i64 b, .int .i64 c, .int .i64 d, .int .i64 l, .int .i64 r, .int .i64 0] 37))
          have HP10 := Lib.hid (Blk.alloc HP9.out (.cells #[.int .i64 a, .int .i64 b, .int .i64 c, .int .i64 d, .int .i64 l, .int .i64 r, .int .i64 0] 37))
          have HQ10 := Lib.hid (Blk.new w9 37 #[.int .i64 a, .int .i64 b, .int .i64 c, .int .i64 d, .int .i64 l, .int .i64 r, .int .i64 0])
          have HB10 := Lib.hid (HB9.out.alloc HB9.out.size (.cells #[.int .i64 a, .int .i64 b, .int .i64 c, .int .i64 d, .int .i64 l, .int .i64 r, .int .i64 0] 37))
          clear HX9 HN9 HP9 HB9
          obtain ⟨c00, c01, c02, c03, c04, c05, c06⟩ := seven HN10.out
          obtain ⟨f00, f01, f02, f03, f04, f05, f06⟩ := seven_fr HN10.out
          go_wp2_with fail
          clear c00 c01 c02 c03 c04 c05 c06 f00 f01 f02 f03 f04 f05 f06
          generalize w9.alloc (.cells #[.int .i64 a, .int .i64 b, .int .i64 c, .int .i64 d, .int .i64 l, .int .i64 r, .int .i64 0] 37) = w10 at *
          have HF := Lib.hid (HT.out.below HT.out.1 HB10.out)
          refine (HMb.out _ HF.out).mono ?_
          rintro e w11 ⟨rfl, hb⟩
          have HX11 := Lib.hid (HX10.out.next hb)
          have HN11 := Lib.hid (HN10.out.next hb)
          have HP11 := Lib.hid (HP10.out.next hb)
          have HQ11 := Lib.hid (HQ10.out.next hb)
          have HB11 := Lib.hid (HB10.out.trans (hb.mono HB10.out.size))
          clear hb HX10 HN10 HP10 HQ10 HB10
          clear HF
          have HX12 := Lib.hid (Blk.alloc HX11.out (.cells #[.int .i64 a, .int .i64 b, .int .i64 c, .int .i64 d, .int .i64 l, .int .i64 r, .int .i64 0] 37))
          have HN12 := Lib.hid (Blk.alloc HN11.out (.cells #[.int .i64 a, .int .i64 b, .int .i64 c, .int .i64 d, .int .i64 l, .int .i64 r, .int .i64 0] 37))
          have HP12 := Lib.hid (Blk.alloc HP11.out (.cells #[.int .i64 a, .int .i64 b, .int .i64 c, .int .i64 d, .int .i64 l, .int .i64 r, .int .i64 0] 37))
          have HQ12 := Lib.hid (Blk.alloc HQ11.out (.cells #[.int .i64 a, .int .i64 b, .int .i64 c, .int .i64 d, .int .i64 l, .int .i64 r, .int .i64 0] 37))
          have HU12 := Lib.hid (Blk.new w11 37 #[.int .i64 a, .int .i64 b, .int .i64 c, .int .i64 d, .int .i64 l, .int .i64 r, .int .i64 0])
          have HB12 := Lib.hid (HB11.out.alloc HB11.out.size (.cells #[.int .i64 a, .int .i64 b, .int .i64 c, .int .i64 d, .int .i64 l, .int .i64 r, .int .i64 0] 37))
          clear HX11 HN11 HP11 HQ11 HB11
          obtain ⟨c00, c01, c02, c03, c04, c05, c06⟩ := seven HN12.out
          obtain ⟨f00, f01, f02, f03, f04, f05, f06⟩ := seven_fr HN12.out
          go_wp2_with fail
          clear c00 c01 c02 c03 c04 c05 c06 f00 f01 f02 f03 f04 f05 f06
          generalize w11.alloc (.cells #[.int .i64 a, .int .i64 b, .int .i64 c, .int .i64 d, .int .i64 l, .int .i64 r, .int .i64 0] 37) = w12 at *
          refine (HO.out _).mono ?_
          rintro e w13 ⟨rfl, hb⟩
          have HX13 := Lib.hid (HX12.out.next hb)
          have HN13 := Lib.hid (HN12.out.next hb)
          have HP13 := Lib.hid (HP12.out.next hb)
          have HQ13 := Lib.hid (HQ12.out.next hb)
          have HU13 := Lib.hid (HU12.out.next hb)
          have HB13 := Lib.hid (HB12.out.trans (hb.mono HB12.out.size))
          clear hb HX12 HN12 HP12 HQ12 HU12 HB12
          have HF := Lib.hid (HT.out.below HT.out.1 HB13.out)
          go_wp2_with fail
          refine (HMc.out _ HF.out).mono ?_
          rintro e w14 ⟨rfl, hb⟩
          have HX14 := Lib.hid (HX13.out.next hb)
          have HN14 := Lib.hid (HN13.out.next hb)
          have HP14 := Lib.hid (HP13.out.next hb)
          have HQ14 := Lib.hid (HQ13.out.next hb)
          have HU14 := Lib.hid (HU13.out.next hb)
          have HB14 := Lib.hid (HB13.out.trans (hb.mono HB13.out.size))
          clear hb HX13 HN13 HP13 HQ13 HU13 HB13
          clear HF
          have HX15 := Lib.hid (Blk.alloc HX14.out (.cells #[.int .i64 a, .int .i64 b, .int .i64 c, .int .i64 d, .int .i64 l, .int .i64 r, .int .i64 3] 37))
          have HN15 := Lib.hid (Blk.alloc HN14.out (.cells #[.int .i64 a, .int .i64 b, .int .i64 c, .int .i64 d, .int .i64 l, .int .i64 r, .int .i64 3] 37))
          have HP15 := Lib.hid (Blk.alloc HP14.out (.cells #[.int .i64 a, .int .i64 b, .int .i64 c, .int .i64 d, .int .i64 l, .int .i64 r, .int .i64 3] 37))
          have HQ15 := Lib.hid (Blk.alloc HQ14.out (.cells #[.int .i64 a, .int .i64 b, .int .i64 c, .int .i64 d, .int .i64 l, .int .i64 r, .int .i64 3] 37))
          have HU15 := Lib.hid (Blk.alloc HU14.out (.cells #[.int .i64 a, .int .i64 b, .int .i64 c, .int .i64 d, .int .i64 l, .int .i64 r, .int .i64 3] 37))
          have HV15 := Lib.hid (Blk.new w14 37 #[.int .i64 a, .int .i64 b, .int .i64 c, .int .i64 d, .int .i64 l, .int .i64 r, .int .i64 3])
          have HB15 := Lib.hid (HB14.out.alloc HB14.out.size (.cells #[.int .i64 a, .int .i64 b, .int .i64 c, .int .i64 d, .int .i64 l, .int .i64 r, .int .i64 3] 37))
          clear HX14 HN14 HP14 HQ14 HU14 HB14
          obtain ⟨c00, c01, c02, c03, c04, c05, c06⟩ := seven HX15.out
          obtain ⟨f00, f01, f02, f03, f04, f05, f06⟩ := seven_fr HX15.out
          go_wp2_with fail
          clear c00 c01 c02 c03 c04 c05 c06 f00 f01 f02 f03 f04 f05 f06
          generalize w14.alloc (.cells #[.int .i64 a, .int .i64 b, .int .i64 c, .int .i64 d, .int .i64 l, .int .i64 r, .int .i64 3] 37) = w15 at *
          refine (HIn.out _).mono ?_
          rintro e w16 ⟨rfl, hb⟩
          have HX16 := Lib.hid (HX15.out.next hb)
          have HN16 := Lib.hid (HN15.out.next hb)
          have HP16 := Lib.hid (HP15.out.next hb)
          have HQ16 := Lib.hid (HQ15.out.next hb)
          have HU16 := Lib.hid (HU15.out.next hb)
          have HV16 := Lib.hid (HV15.out.next hb)
          have HB16 := Lib.hid (HB15.out.trans (hb.mono HB15.out.size))
          clear hb HX15 HN15 HP15 HQ15 HU15 HV15 HB15
          go_wp2_with fail
          refine (HRM.out _).mono ?_
          rintro e w17 ⟨rfl, hb⟩
          have HX17 := Lib.hid (HX16.out.next hb)
          have HN17 := Lib.hid (HN16.out.next hb)
          have HP17 := Lib.hid (HP16.out.next hb)
          have HQ17 := Lib.hid (HQ16.out.next hb)
          have HU17 := Lib.hid (HU16.out.next hb)
          have HV17 := Lib.hid (HV16.out.next hb)
          have HB17 := Lib.hid (HB16.out.trans (hb.mono HB16.out.size))
          clear hb HX16 HN16 HP16 HQ16 HU16 HV16 HB16
          have HX18 := Lib.hid (Blk.alloc HX17.out (.cells #[.int .i64 a, .int .i64 b, .int .i64 c, .int .i64 d, .int .i64 l, .int .i64 r, .int .i64 0] 35))
          have HN18 := Lib.hid (Blk.alloc HN17.out (.cells #[.int .i64 a, .int .i64 b, .int .i64 c, .int .i64 d, .int .i64 l, .int .i64 r, .int .i64 0] 35))
          have HP18 := Lib.hid (Blk.alloc HP17.out (.cells #[.int .i64 a, .int .i64 b, .int .i64 c, .int .i64 d, .int .i64 l, .int .i64 r, .int .i64 0] 35))
          have HQ18 := Lib.hid (Blk.alloc HQ17.out (.cells #[.int .i64 a, .int .i64 b, .int .i64 c, .int .i64 d, .int .i64 l, .int .i64 r, .int .i64 0] 35))
          have HU18 := Lib.hid (Blk.alloc HU17.out (.cells #[.int .i64 a, .int .i64 b, .int .i64 c, .int .i64 d, .int .i64 l, .int .i64 r, .int .i64 0] 35))
          have HV18 := Lib.hid (Blk.alloc HV17.out (.cells #[.int .i64 a, .int .i64 b, .int .i64 c, .int .i64 d, .int .i64 l, .int .i64 r, .int .i64 0] 35))
          have HY18 := Lib.hid (Blk.new w17 35 #[.int .i64 a, .int .i64 b, .int .i64 c, .int .i64 d, .int .i64 l, .int .i64 r, .int .i64 0])
          have HB18 := Lib.hid (HB17.out.alloc HB17.out.size (.cells #[.int .i64 a, .int .i64 b, .int .i64 c, .int .i64 d, .int .i64 l, .int .i64 r, .int .i64 0] 35))
          clear HX17 HN17 HP17 HQ17 HU17 HV17 HB17
          obtain ⟨c00, c01, c02, c03, c04, c05, c06⟩ := seven HN18.out
          obtain ⟨f00, f01, f02, f03, f04, f05, f06⟩ := seven_fr HN18.out
          obtain ⟨c10, c11, c12, c13, c14, c15, c16⟩ := seven HP18.out
          obtain ⟨f10, f11, f12, f13, f14, f15, f16⟩ := seven_fr HP18.out
          obtain ⟨c20, c21, c22, c23, c24, c25, c26⟩ := seven HQ18.out
          obtain ⟨f20, f21, f22, f23, f24, f25, f26⟩ := seven_fr HQ18.out
          obtain ⟨c30, c31, c32, c33, c34, c35, c36⟩ := seven HU18.out
          obtain ⟨f30, f31, f32, f33, f34, f35, f36⟩ := seven_fr HU18.out
          obtain ⟨c40, c41, c42, c43, c44, c45, c46⟩ := seven HV18.out
          obtain ⟨f40, f41, f42, f43, f44, f45, f46⟩ := seven_fr HV18.out
          go_wp2_with fail
          go_ret
          exact ⟨rfl, HB18.out⟩

set_option maxRecDepth 100000 in
/-- What the walk gives, for every argument and every world that holds the table. -/
theorem contract (H : Type) (enc : TypeId × Value → H) (W : World) (base : Nat) (args : Array Value) (ds gs : List (DataW H)) (before : List MemPlace)
    (hval : ∀ (j : Nat) t v, Tryd.f8.params[j]? = some t → args[j]? = some v → Value.okWide Tryd.prog W .any base t v)
    (hW : DataW.Whole enc Tryd.prog Tryd.f8.params.toList Rows.isoOnceSpec.vars false W args.toList ds gs before) (hL : laidMetH Tryd.prog Rows.isoOnceRow.laid W)
    (hreach : (DataW.weightsEach Tryd.prog (Tryd.f8.params.toList ++ []) (ds ++ gs)).all (· ≤ reachBytes) = true) :
    Calls Tryd.prog 8 args W fun e W' => ∃ v, e = .returned v ∧ Rows.isoOnceSpec.post enc Tryd.prog Tryd.f8 false true false false W args v W' := by
  have hW' := hW
  have ht := facesB hL
  have hs := blanksB hL
  have hlts : ∀ x ∈ before, x.block < W.heap.size := fun x hx => hW'.lt x hx
  obtain ⟨p, q, hA0, hV, rfl, hfz, hnd⟩ := hW
  have hA : DataW.TrodAll enc Tryd.prog W 0 (fun _ => true) true Tryd.f8.params.toList args.toList ds p := hA0
  rw [Tryd.params8] at hA hval hreach
  obtain ⟨v0, vs0, d0, ds0, pp0, qq0, hargs, rfl, rfl, h0, rr0⟩ := trodAll_cons hA
  obtain ⟨v1, vs1, d1, ds1, pp1, qq1, rfl, rfl, rfl, h1, rr1⟩ := trodAll_cons rr0
  obtain ⟨v2, vs2, d2, ds2, pp2, qq2, rfl, rfl, rfl, h2, rr2⟩ := trodAll_cons rr1
  obtain ⟨rfl, rfl, rfl⟩ := trodAll_nil rr2
  obtain rfl : args = #[v0, v1, v2] := by cases args; simp_all
  obtain ⟨rfl, rfl⟩ := trodVars_none hV
  obtain ⟨a0, b0, c0, e0, l0, r0, s0, rfl⟩ := iso_in (hval 0 35 v0 rfl rfl) h0
  obtain ⟨a1, rfl, rfl, rfl, w1⟩ := open_int Tryd.underlying3 (hval 1 3 v1 rfl rfl) h1
  obtain ⟨b2, len2, cap2, rfl⟩ := okWide_slice Tryd.underlying36 (hval 2 36 v2 rfl rfl)
  have hri2 := bytes_in h2
  clear hA0
  refine (walk a0 b0 c0 e0 l0 r0 s0 a1 b2 len2 cap2 W ht hs hri2).mono fun e W' ⟨he, hb⟩ => ?_
  subst he
  exact ⟨_, rfl, post_law laidOut (by kernel_rfl) (by kernel_rfl) rfl hW' rfl hb⟩

set_option maxRecDepth 100000 in
theorem laid_met (os : Os) : laidMet Tryd.prog Rows.isoOnceRow.laid ((laidWorldB os).forCall (fun _ _ => 0) ⟨#[], #[Value.agg #[.int .i64 0, .int .i64 0, .int .i64 0, .int .i64 0, .int .i64 0, .int .i64 0, .int .i64 0], Value.int .i64 0, Value.slice none 0 0], []⟩).memory :=
  laid_metB os _
set_option maxRecDepth 100000 in
theorem reads (os : Os) {H : Type} (enc : TypeId × Value → H) : ∃ places, DataW.whole enc Tryd.prog ((laidWorldB os).forCall (fun _ _ => 0) ⟨#[], #[Value.agg #[.int .i64 0, .int .i64 0, .int .i64 0, .int .i64 0, .int .i64 0, .int .i64 0, .int .i64 0], Value.int .i64 0, Value.slice none 0 0], []⟩).memory Tryd.f8.params.toList Rows.isoOnceSpec.vars false (#[Value.agg #[.int .i64 0, .int .i64 0, .int .i64 0, .int .i64 0, .int .i64 0, .int .i64 0, .int .i64 0], Value.int .i64 0, Value.slice none 0 0] : Array Value).toList 8 = some ([.agg [.agg [.lit (.int .i64 0), .lit (.int .i64 0), .lit (.int .i64 0), .lit (.int .i64 0)], .lit (.int .i64 0), .lit (.int .i64 0), .lit (.int .i64 0)], .lit (.int .i64 0), .nil], [], places) :=
  ⟨[], by kernel_rfl⟩

set_option maxRecDepth 100000 in
theorem lifted (os : Os) (started : os.Started) (H : Type) (enc : TypeId × Value → H) (F : Stop.Interp) :
    ReturnsInHanded {} Tryd.checked os 8 .any ((OpenSpec.ofChange Rows.isoOnceSpec).preRow enc Tryd.prog Tryd.f8 Rows.isoOnceRow.domain false Rows.isoOnceRow.laid) (((OpenSpec.ofChange Rows.isoOnceSpec).at F).post enc Tryd.prog Tryd.f8 false true false false) := by
  obtain ⟨places, hx⟩ := reads os enc
  refine returnsInHanded_of_row (C := Tryd.checked) (s := OpenSpec.ofChange Rows.isoOnceSpec) own started (by kernel_rfl) Tryd.func8
    (witness_row_atRef (enc := enc) (C := Tryd.checked) false (laidWorldB os) #[Value.agg #[.int .i64 0, .int .i64 0, .int .i64 0, .int .i64 0, .int .i64 0, .int .i64 0, .int .i64 0], Value.int .i64 0, Value.slice none 0 0] rfl (by kernel_rfl) (by kernel_rfl) (by kernel_rfl)
      (OpenSpec.preRow_of_cond 8 hx (by kernel_rfl) (fun k hk => by cases hk) (by kernel_rfl) (laid_met os))) ?_
  intro W base args ds gs before hval hW _ _ hreach hL _ _
  exact contract H enc W base args ds gs before hval hW hL hreach

theorem said : Rows.IsoOnceSaid :=
  OpenClaim.holds_of_cond 8 Tryd.f8 rfl rfl rfl rfl rfl rfl rfl ⟨rfl, rfl, rfl, rfl, rfl⟩ rfl rfl rfl rfl rfl (by kernel_rfl) Tryd.func8 (by kernel_rfl)
    (of_decide_eq_true (by kernel_rfl)) (by unfold Func.isWrapper; first | (rw [if_pos (by decide +kernel)]; kernel_rfl) | (rw [if_neg (by decide +kernel)]; exact ⟨rfl, rfl⟩))
    (fun os started H enc _ F => by rw [OpenClaim.pre_eq_preRow]; exact lifted os started H enc F)

theorem plain (f : FuncId) (fn : Func) (hf : Tryd.pinned.checked.prog.funcNamed "phosphor/phosphorlaw10.IsoOnce" = some f) (hfn : Tryd.pinned.checked.prog.funcs[f]? = some fn) :
    false = Tryd.pinned.checked.prog.looks [] ∧ ∀ (j : Nat) t, fn.params[j]? = some t → Tryd.pinned.checked.prog.wantsStandIn t = false := by
  obtain rfl : f = 8 := Option.some.inj ((show Tryd.prog.funcNamed "phosphor/phosphorlaw10.IsoOnce" = some 8 by kernel_rfl).symm.trans hf) |>.symm
  obtain rfl : fn = Tryd.f8 := (Option.some.inj (Tryd.func8.symm.trans hfn)).symm
  refine ⟨by kernel_rfl, fun j t ht => ?_⟩
  rw [Tryd.params8] at ht
  have hm : t ∈ [35, 3, 36] := by simpa using Array.mem_of_getElem? ht
  have hall : ([35, 3, 36].all fun u => !Tryd.prog.wantsStandIn u) = true := by kernel_rfl
  exact (show Tryd.prog.wantsStandIn t = false by simpa using List.all_eq_true.1 hall t hm)

/-- The card. -/
theorem card : Rows.IsoOnceCardSaid :=
  Claim7.holds_tied_plain_at .later [] _ _ _ _ said (fun _ h => by cases h) (by kernel_rfl) (fun _ h => by cases h) isoOnce_row_tie rfl ⟨rfl, rfl⟩ (by kernel_rfl) rfl plain (by kernel_rfl)
#print axioms card
end Go.Proofs.YtmpbalocohoihaaDoor.isoOnce

/-
  PhosphorAtHand holds, whatever the input: the card of the statement, with the table of the sets' faces and the library's two tables of blanks tied to the program's text.
-/
import Derived.Test.YtandfpghjbbalaaDoorCards
import Derived.Test.YtandfpghjbbalaaDoorTie
import Derived.Test.YtandfpghjbbalaaDoorFrameW
import Derived.Test.YtandfpghjbbalaaDoorIsoO
import Derived.Test.YtandfpghjbbalaaDoorIsoF
import Derived.Test.YtandfpghjbbalaaDoorChsI
import Derived.Test.YtandfpghjbbalaaDoorFrameJ
namespace Go.Proofs.YtandfpghjbbalaaDoor.phosphorAtHand
open Go.ChangeShapes Go.WideShapes Go.ChangeAt Go.RowKit
open Go.ChangeMaps (open_string)

set_option maxRecDepth 100000 in
set_option maxHeartbeats 2000000 in
theorem reported_any (x : Iso) (w : World) (ht : Faces w) : Calls Tryd.prog 39 #[x.val] w fun e w' => e = .returned (rptV x) ∧ Below w.heap.size w w' := by
  have HR := Lib.hid (fun W t => report_any x W t)
  have HT := Lib.hid ht
  clear ht
  unfold rptV at *
  obtain ⟨a, b, c, d, l, r, s⟩ := x
  generalize leftP ⟨a, b, c, d, l, r, s⟩ = lp at *
  generalize rightP ⟨a, b, c, d, l, r, s⟩ = rp at *
  generalize sizP ⟨a, b, c, d, l, r, s⟩ 4 = sz at *
  generalize idtP ⟨a, b, c, d, l, r, s⟩ 4 = tl at *
  unfold Iso.val Iso.cs at *
  simp only at HR ⊢
  have HB := Lib.hid (show Below w.heap.size w (w.alloc (.cells #[.int .i64 a, .int .i64 b, .int .i64 c, .int .i64 d, .int .i64 l, .int .i64 r, .int .i64 s] 37)) from (Below.refl _ _).alloc (Nat.le_refl _) _)
  go_enter Tryd.func39, Tryd.ntmps39
  go_wp2_with fail
  refine (HR.out _ (HT.out.next HB.out)).mono ?_
  rintro e w1 ⟨rfl, hb1⟩
  have HB1 := Lib.hid (HB.out.trans (hb1.mono HB.out.size))
  clear hb1
  go_wp2_with fail
  exact bodyPost_ret (v := .tuple #[.int .i64 lp, .int .i64 rp, .int .u8 (sz : Nat), .string tl]) (by simp [results, Tryd.results39, go_sem]) rfl ⟨rfl, HB1.out⟩
theorem and_low : ∀ n : Nat, n < 256 → bits .and .u8 (n : Int) 127 = ((n % 128 : Nat) : Int) := by decide +kernel
theorem or_high : ∀ n : Nat, n < 128 → bits .or .u8 (n : Int) 128 = ((n + 128 : Nat) : Int) := by decide +kernel
theorem put_new (g : Int) (k : Nat) (h1 : 1 ≤ g) (h3 : g ≤ 3) (k1 : 1 ≤ k) (k2 : k < 18) : ∃ sb sc sd : Int, newI.put g k = ⟨1, sb, sc, sd, 0, 2, 0⟩ ∧ (∀ l r s, Iso.at_ ⟨1, sb, sc, sd, l, r, s⟩ g = k) ∧ (∀ l r s, goodI ⟨1, sb, sc, sd, l, r, s⟩) := by
  have hg : g = 1 ∨ g = 2 ∨ g = 3 := by omega
  have good : ∀ sb sc sd : Int, 1 ≤ sb → sb ≤ 17 → 1 ≤ sc → sc ≤ 17 → 1 ≤ sd → sd ≤ 17 → ∀ l r s, goodI ⟨1, sb, sc, sd, l, r, s⟩ := by
    intro sb sc sd a1 a2 a3 a4 a5 a6 l r s j hj
    have hs : j = 0 ∨ j = 1 ∨ j = 2 ∨ j = 3 := by omega
    rcases hs with rfl | rfl | rfl | rfl
    · exact ⟨by show (1 : Int) ≤ 1; omega, by show (1 : Int) ≤ 17; omega, fun _ => by show (1 : Int) ≠ 5; omega⟩
    · exact ⟨a1, a2, fun h => absurd h (by omega)⟩
    · exact ⟨a3, a4, fun h => absurd h (by omega)⟩
    · exact ⟨a5, a6, fun h => absurd h (by omega)⟩
  rcases hg with rfl | rfl | rfl
  · exact ⟨k, 4, 4, rfl, fun _ _ _ => rfl, good _ _ _ (by omega) (by omega) (by omega) (by omega) (by omega) (by omega)⟩
  · exact ⟨1, k, 4, rfl, fun _ _ _ => rfl, good _ _ _ (by omega) (by omega) (by omega) (by omega) (by omega) (by omega)⟩
  · exact ⟨1, 4, k, rfl, fun _ _ _ => rfl, good _ _ _ (by omega) (by omega) (by omega) (by omega) (by omega) (by omega)⟩
theorem map_in (x : Iso) (g : Int) (k n m : Nat) (hat : x.at_ g = k) (hs : setN (k : Int) = k) (hx : meantP x m = g) (hm : m % 128 = n) : mapP x m = (if n < 32 then 0 else gP k n, if n < 32 then x else if sinB x.s = true then { x with s := 0 } else x) := by
  unfold mapP
  rw [hm, hx, hat, hs]
  split <;> rfl
theorem meant_left (b c d g : Int) (h1 : 1 ≤ g) (h3 : g ≤ 3) (n : Nat) (h : n < 128) : meantP ⟨1, b, c, d, g, 2, 0⟩ n = g := by
  unfold meantP
  rw [if_neg (by show ¬ sinB 0 = true; decide), if_pos h]
  unfold leftP
  rw [if_pos (by unfold inB; simp; omega)]
theorem meant_right (b c d g : Int) (h1 : 1 ≤ g) (h3 : g ≤ 3) (n : Nat) : meantP ⟨1, b, c, d, 0, g, 0⟩ (n + 128) = g := by
  unfold meantP
  rw [if_neg (by show ¬ sinB 0 = true; decide), if_neg (by omega)]
  unfold rightP
  rw [if_pos (by unfold inB; simp; omega)]
theorem meant_one (b c d g : Int) (h1 : 1 < g) (h3 : g ≤ 3) (n : Nat) : meantP ⟨1, b, c, d, 0, 2, g⟩ n = g := by
  unfold meantP
  rw [if_pos (by unfold sinB; simp; omega)]
theorem rest_back (sb sc sd g : Int) (h1 : 1 ≤ g) (h3 : g ≤ 3) (hg : goodI ⟨1, sb, sc, sd, g, 2, 0⟩) : restP newI (leftP ⟨1, sb, sc, sd, g, 2, 0⟩) (rightP ⟨1, sb, sc, sd, g, 2, 0⟩) (sizP ⟨1, sb, sc, sd, g, 2, 0⟩ 4) (idtP ⟨1, sb, sc, sd, g, 2, 0⟩ 4) = (⟨1, sb, sc, sd, g, 2, 0⟩, true) := by
  rw [rest_good _ _ hg (by unfold rightP; rw [if_pos (by show inB 0 2 = true; decide)]; show (0 : Int) < 2; omega)]
  have e : leftP ⟨1, sb, sc, sd, g, 2, 0⟩ = g := by unfold leftP; rw [if_pos (by unfold inB; simp; omega)]
  rw [e]
  rfl
def KA (gs gl gr : Nat) (x y z : Array Value) (B : Nat) (w W : World) : Prop := Blk W gs 37 x ∧ Blk W gl 37 y ∧ Blk W gr 37 z ∧ Below B w W
theorem KA.next {gs gl gr B : Nat} {x y z : Array Value} {w W W' : World} (h : KA gs gl gr x y z B w W) (hb : Below W.heap.size W W') (hB : B ≤ W.heap.size) : KA gs gl gr x y z B w W' := ⟨h.1.next hb, h.2.1.next hb, h.2.2.1.next hb, h.2.2.2.trans (hb.mono hB)⟩
theorem KA.step {gs gl gr : Nat} {x y z : Array Value} {w W W' : World} (h : KA gs gl gr x y z w.heap.size w W) (hb : Below W.heap.size W W') : KA gs gl gr x y z w.heap.size w W' := h.next hb h.2.2.2.size
theorem KA.more {gs gl gr : Nat} {x y z : Array Value} {w W : World} (h : KA gs gl gr x y z w.heap.size w W) (o : Obj) : KA gs gl gr x y z w.heap.size w (W.alloc o) := h.step ((Below.refl _ _).alloc (Nat.le_refl _) o)
set_option maxRecDepth 100000 in
set_option maxHeartbeats 16000000 in
theorem walk (set : Int) (A : Option Addr) (len cap : Nat) (g0 : Int) (w : World) (ht : Faces w) (hs : Blanks w) (hby : RBy w A len) :
    Calls Tryd.prog 11 #[.int .i64 set, .slice A len cap, .int .i64 g0] w fun e w' => e = .returned (.bool true) ∧ Below w.heap.size w w' := by
  have HT := Lib.hid ht; have HS := Lib.hid hs; have HBy := Lib.hid hby
  clear ht hs hby
  by_cases q1 : 1 ≤ set
  · by_cases q2 : set ≤ 17
    · obtain ⟨k, rfl⟩ : ∃ k : Nat, set = k := ⟨set.toNat, by omega⟩
      have k1 : 1 ≤ k := by omega
      have k2 : k < 18 := by omega
      have p1 : decide ((k : Int) < 1) = false := by simp; omega
      have p2 : decide ((17 : Int) < (k : Int)) = false := by simp; omega
      have hsn := setN_nat k ⟨k1, by omega⟩
      have HId : Hid (∀ W, Faces W → Calls Tryd.prog 17 #[.int .i64 k] W fun e w' => e = .returned (.tuple #[.string (idP k), .bool (wideP k)]) ∧ Below W.heap.size W w') := Lib.hid (fun W t => by have := id_any (k : Int) W t; rw [hsn] at this; exact this)
      have HGl : Hid (∀ (n : Nat) W, n < 128 → Calls Tryd.prog 14 #[.int .i64 k, .int .u8 n] W fun e w' => e = .returned (.int .i32 (gP k n)) ∧ Below W.heap.size W w') := Lib.hid (fun n W h => by have := refGlyph_any (k : Int) n (by omega) W; rw [hsn, Nat.mod_eq_of_lt h] at this; exact this)
      have HBk := Lib.hid (id_back k k2)
      have HPn := Lib.hid (fun g h1 h3 => put_new g k h1 h3 k1 k2)
      have HSn := Lib.hid hsn
      clear q1 q2 hsn
      go_enter Tryd.func11, Tryd.ntmps11
      go_wp2_with fail
      refine (HId.out _ HT.out).mono ?_
      rintro e w1 ⟨rfl, hb1⟩
      have HB1 := Lib.hid hb1
      clear hb1 HId p1 p2
      go_upto_region 4 with fail
      go_cut [38] (fun u wx => u = .bool (decide (g0 < 1) || decide (3 < g0)) ∧ wx = w1)
      case first =>
        rcases t1 : decide (g0 < 1) with _ | _
        · rcases t2 : decide (3 < g0) with _ | _
          all_goals
            go_wp2_with fail
            go_meet
            exact ⟨by rw [t1, t2]; rfl, rfl⟩
        · go_wp2_with fail
          go_meet
          exact ⟨by rw [t1]; rfl, rfl⟩
      case rest =>
      obtain ⟨rfl, rfl⟩ := hcut
      go_upto_if 38 with fail
      go_cut [2] (fun u wx => ∃ g : Int, 1 ≤ g ∧ g ≤ 3 ∧ u = .int .i64 g ∧ wx = wc)
      case first =>
        rcases t1 : (decide (g0 < 1) || decide (3 < g0)) with _ | _
        · have t3 : 1 ≤ g0 ∧ g0 ≤ 3 := by simp at t1; omega
          have T3 := Lib.hid t3
          clear t3
          go_wp2_with fail
          go_meet
          exact ⟨g0, T3.out.1, T3.out.2, rfl, rfl⟩
        · go_wp2_with fail
          go_meet
          exact ⟨1, by omega, by omega, rfl, rfl⟩
      case rest =>
        obtain ⟨g, h1, h3, rfl, rfl⟩ := hcut
        have H13 := Lib.hid (And.intro h1 h3)
        have HP := Lib.hid (HPn.out g h1 h3)
        clear h1 h3 HPn
        obtain ⟨sb, sc, sd, hput, hat, hgood⟩ := HP.out
        have HDs : Hid (∀ W, Faces W → Blanks W → Calls Tryd.prog 37 #[newI.val, .int .i64 g, .bool (wideP k), .string (idP k)] W fun e w' => e = .returned (.tuple #[.agg #[.int .i64 1, .int .i64 sb, .int .i64 sc, .int .i64 sd, .int .i64 0, .int .i64 2, .int .i64 0], .bool true]) ∧ Below W.heap.size W w') := Lib.hid (fun W t s => by
          have := designate_any newI g (wideP k) (idP k) W t s
          have e : desP newI g (wideP k) (idP k) = (newI.put g k, true) := by
            unfold desP
            rw [HBk.out, if_pos ⟨by omega, by have := H13.out; unfold inB; simp; omega, fun h => by have := H13.out; omega⟩]
          rw [e, hput] at this
          exact this)
        have HLe : Hid (∀ W, Calls Tryd.prog 35 #[.agg #[.int .i64 1, .int .i64 sb, .int .i64 sc, .int .i64 sd, .int .i64 0, .int .i64 2, .int .i64 0], .int .i64 g] W fun e w' => e = .returned (.agg #[.int .i64 1, .int .i64 sb, .int .i64 sc, .int .i64 sd, .int .i64 g, .int .i64 2, .int .i64 0]) ∧ Below W.heap.size W w') := Lib.hid (fun W => by have := isoLeft_any ⟨1, sb, sc, sd, 0, 2, 0⟩ g W; rw [left_of (by have := H13.out; unfold inB; simp; omega)] at this; exact this)
        have HRi : Hid (∀ W, Calls Tryd.prog 36 #[.agg #[.int .i64 1, .int .i64 sb, .int .i64 sc, .int .i64 sd, .int .i64 0, .int .i64 2, .int .i64 0], .int .i64 g] W fun e w' => e = .returned (.agg #[.int .i64 1, .int .i64 sb, .int .i64 sc, .int .i64 sd, .int .i64 0, .int .i64 g, .int .i64 0]) ∧ Below W.heap.size W w') := Lib.hid (fun W => by have := isoRight_any ⟨1, sb, sc, sd, 0, 2, 0⟩ g W; rw [right_of (by have := H13.out; unfold inB; simp; omega)] at this; exact this)
        have HMl : Hid (∀ (n : Nat) W, n < 128 → Faces W → Calls Tryd.prog 26 #[.agg #[.int .i64 1, .int .i64 sb, .int .i64 sc, .int .i64 sd, .int .i64 g, .int .i64 2, .int .i64 0], .int .u8 n] W fun e w' => e = .returned (.tuple #[.int .i32 (if n < 32 then 0 else gP k n), .agg #[.int .i64 1, .int .i64 sb, .int .i64 sc, .int .i64 sd, .int .i64 g, .int .i64 2, .int .i64 0]]) ∧ Below W.heap.size W w') := Lib.hid (fun n W h t => by
          have := map_any ⟨1, sb, sc, sd, g, 2, 0⟩ n (by omega) W t
          rw [map_in ⟨1, sb, sc, sd, g, 2, 0⟩ g k n n (hat _ _ _) HSn.out (meant_left _ _ _ _ H13.out.1 H13.out.2 n h) (Nat.mod_eq_of_lt h), if_neg (show ¬ sinB 0 = true by decide), ite_self] at this
          exact this)
        have HMr : Hid (∀ (n : Nat) W, n < 128 → Faces W → Calls Tryd.prog 26 #[.agg #[.int .i64 1, .int .i64 sb, .int .i64 sc, .int .i64 sd, .int .i64 0, .int .i64 g, .int .i64 0], .int .u8 ((n + 128 : Nat) : Int)] W fun e w' => e = .returned (.tuple #[.int .i32 (if n < 32 then 0 else gP k n), .agg #[.int .i64 1, .int .i64 sb, .int .i64 sc, .int .i64 sd, .int .i64 0, .int .i64 g, .int .i64 0]]) ∧ Below W.heap.size W w') := Lib.hid (fun n W h t => by
          have := map_any ⟨1, sb, sc, sd, 0, g, 0⟩ (n + 128) (by omega) W t
          rw [map_in ⟨1, sb, sc, sd, 0, g, 0⟩ g k n (n + 128) (hat _ _ _) HSn.out (meant_right _ _ _ _ H13.out.1 H13.out.2 n) (by omega), if_neg (show ¬ sinB 0 = true by decide), ite_self] at this
          exact this)
        have HOn : Hid (1 < g → ∀ W, Calls Tryd.prog 25 #[.agg #[.int .i64 1, .int .i64 sb, .int .i64 sc, .int .i64 sd, .int .i64 0, .int .i64 2, .int .i64 0], .int .i64 g] W fun e w' => e = .returned (.agg #[.int .i64 1, .int .i64 sb, .int .i64 sc, .int .i64 sd, .int .i64 0, .int .i64 2, .int .i64 g]) ∧ Below W.heap.size W w') := Lib.hid (fun h W => by
          have := isoOnce_any ⟨1, sb, sc, sd, 0, 2, 0⟩ g W
          rw [show onceI ⟨1, sb, sc, sd, 0, 2, 0⟩ g = ⟨1, sb, sc, sd, 0, 2, g⟩ from if_pos (by have := H13.out; unfold sinB; simp; omega)] at this
          exact this)
        have HMo : Hid (1 < g → ∀ (n : Nat) W, n < 128 → ¬ n < 32 → Faces W → Calls Tryd.prog 26 #[.agg #[.int .i64 1, .int .i64 sb, .int .i64 sc, .int .i64 sd, .int .i64 0, .int .i64 2, .int .i64 g], .int .u8 n] W fun e w' => e = .returned (.tuple #[.int .i32 (gP k n), .agg #[.int .i64 1, .int .i64 sb, .int .i64 sc, .int .i64 sd, .int .i64 0, .int .i64 2, .int .i64 0]]) ∧ Below W.heap.size W w') := Lib.hid (fun h n W hn h32 t => by
          have := map_any ⟨1, sb, sc, sd, 0, 2, g⟩ n (by omega) W t
          rw [map_in ⟨1, sb, sc, sd, 0, 2, g⟩ g k n n (hat _ _ _) HSn.out (meant_one _ _ _ _ h H13.out.2 n) (Nat.mod_eq_of_lt hn), if_neg h32, if_neg h32, if_pos (by have := H13.out; show sinB g = true; unfold sinB; simp; omega)] at this
          exact this)
        have HRe : Hid (∀ W, Faces W → Calls Tryd.prog 39 #[.agg #[.int .i64 1, .int .i64 sb, .int .i64 sc, .int .i64 sd, .int .i64 g, .int .i64 2, .int .i64 0]] W fun e w' => e = .returned (rptV ⟨1, sb, sc, sd, g, 2, 0⟩) ∧ Below W.heap.size W w') := Lib.hid (fun W t => reported_any ⟨1, sb, sc, sd, g, 2, 0⟩ W t)
        have hz1 : sizP ⟨1, sb, sc, sd, g, 2, 0⟩ 4 < 256 := by have := siz_le ⟨1, sb, sc, sd, g, 2, 0⟩ 4; omega
        have HRs : Hid (∀ W, Faces W → Blanks W → Calls Tryd.prog 32 #[newI.val, .int .i64 (leftP ⟨1, sb, sc, sd, g, 2, 0⟩), .int .i64 (rightP ⟨1, sb, sc, sd, g, 2, 0⟩), .int .u8 (sizP ⟨1, sb, sc, sd, g, 2, 0⟩ 4), .string (idtP ⟨1, sb, sc, sd, g, 2, 0⟩ 4)] W fun e w' => e = .returned (.tuple #[.agg #[.int .i64 1, .int .i64 sb, .int .i64 sc, .int .i64 sd, .int .i64 g, .int .i64 2, .int .i64 0], .bool true]) ∧ Below W.heap.size W w') := Lib.hid (fun W t s => by
          have := restore_any newI (leftP ⟨1, sb, sc, sd, g, 2, 0⟩) (rightP ⟨1, sb, sc, sd, g, 2, 0⟩) _ hz1 (idtP ⟨1, sb, sc, sd, g, 2, 0⟩ 4) W t s
          rw [rest_back sb sc sd g H13.out.1 H13.out.2 (hgood _ _ _)] at this
          exact this)
        have HNw := Lib.hid (fun W => isoNew_any W)
        unfold rptV at HRe
        clear hput hat hgood HP hz1 HBk HSn
        generalize leftP ⟨1, sb, sc, sd, g, 2, 0⟩ = lp at *
        generalize rightP ⟨1, sb, sc, sd, g, 2, 0⟩ = rp at *
        generalize sizP ⟨1, sb, sc, sd, g, 2, 0⟩ 4 = sz at *
        generalize idtP ⟨1, sb, sc, sd, g, 2, 0⟩ 4 = tl at *
        generalize wideP k = wd at *
        generalize idP k = idk at *
        generalize newI.val = nv at *
        go_wp2_with fail
        refine (HNw.out _).mono ?_
        rintro e w2 ⟨rfl, hb2⟩
        have HB2 := Lib.hid (HB1.out.trans (hb2.mono HB1.out.size))
        clear hb2 HB1
        go_wp2_with fail
        refine (HDs.out _ (HT.out.next HB2.out) (HS.out.next HB2.out)).mono ?_
        rintro e w3 ⟨rfl, hb3⟩
        have HB3 := Lib.hid (HB2.out.trans (hb3.mono HB2.out.size))
        clear hb3 HB2 HDs
        go_upto_region 9 with fail
        have HX4 := Lib.hid (Blk.new w3 37 #[.int .i64 1, .int .i64 sb, .int .i64 sc, .int .i64 sd, .int .i64 0, .int .i64 2, .int .i64 0])
        have HB4 := Lib.hid (HB3.out.alloc HB3.out.size (.cells #[.int .i64 1, .int .i64 sb, .int .i64 sc, .int .i64 sd, .int .i64 0, .int .i64 2, .int .i64 0] 37))
        generalize w3.alloc (.cells #[.int .i64 1, .int .i64 sb, .int .i64 sc, .int .i64 sd, .int .i64 0, .int .i64 2, .int .i64 0] 37) = w4 at *
        generalize w3.heap.size = gs at *
        clear HB3
        refine wp_region_mix_lit (by kernel_rfl) [(2, .call (.agg #[.int .i64 1, .int .i64 sb, .int .i64 sc, .int .i64 sd, .int .i64 g, .int .i64 2, .int .i64 0])), (5, .call (.agg #[.int .i64 1, .int .i64 sb, .int .i64 sc, .int .i64 sd, .int .i64 0, .int .i64 g, .int .i64 0])), (6, .alloc 8 37 #[.int .i64 0, .int .i64 0, .int .i64 0, .int .i64 0, .int .i64 0, .int .i64 0, .int .i64 0] (fun _ => #[.int .i64 1, .int .i64 sb, .int .i64 sc, .int .i64 sd, .int .i64 g, .int .i64 2, .int .i64 0])), (7, .alloc 9 37 #[.int .i64 0, .int .i64 0, .int .i64 0, .int .i64 0, .int .i64 0, .int .i64 0, .int .i64 0] (fun _ => #[.int .i64 1, .int .i64 sb, .int .i64 sc, .int .i64 sd, .int .i64 0, .int .i64 g, .int .i64 0])), (8, .init 6), (9, .init 7)] (by kernel_rfl) (by kernel_rfl) (by kernel_rfl) (by rfl) (by simp [apartK] <;> omega) (by simp [startK]) (by simp [stabK]) (⟨fun _ => .pointer (some ⟨w4.heap.size, 0, none⟩), by simp [okK]⟩) (fun β hβ => ?_)
        repeat (
          refine lex_val (v := ?_) rfl rfl (fun w' hf => ?_) ?_
          rotate_left
          · obtain ⟨c0, c1, c2, c3, c4, c5, c6⟩ := seven (HX4.out.next hf.only.below0); go_simp
            try rfl
          try simp only [Act.put, List.setIfInBounds_toArray, List.set_cons_zero, List.set_cons_succ])
        refine lex_call (f := 35) (args := ?_) rfl rfl (fun w' hf => ?_) (fun w' hf => ?_) ?_
        rotate_left
        · go_simp
          try rfl
        · exact HLe.out w'
        try simp only [Act.put, List.setIfInBounds_toArray, List.set_cons_zero, List.set_cons_succ]
        repeat (
          refine lex_val (v := ?_) rfl rfl (fun w' hf => ?_) ?_
          rotate_left
          · obtain ⟨c0, c1, c2, c3, c4, c5, c6⟩ := seven (HX4.out.next hf.only.below0); go_simp
            try rfl
          try simp only [Act.put, List.setIfInBounds_toArray, List.set_cons_zero, List.set_cons_succ])
        refine lex_call (f := 36) (args := ?_) rfl rfl (fun w' hf => ?_) (fun w' hf => ?_) ?_
        rotate_left
        · go_simp
          try rfl
        · exact HRi.out w'
        try simp only [Act.put, List.setIfInBounds_toArray, List.set_cons_zero, List.set_cons_succ]
        refine lex_alloc rfl rfl (fun w' => ?_) ?_
        · go_simp
        try simp only [Act.put, List.setIfInBounds_toArray, List.set_cons_zero, List.set_cons_succ]
        refine lex_alloc rfl rfl (fun w' => ?_) ?_
        · go_simp
        try simp only [Act.put, List.setIfInBounds_toArray, List.set_cons_zero, List.set_cons_succ]
        refine lex_init rfl rfl rfl (fun bl w' hb hf hB => ⟨_, ?_, repl7 hB (.int .i64 1) (.int .i64 sb) (.int .i64 sc) (.int .i64 sd) (.int .i64 g) (.int .i64 2) (.int .i64 0)⟩) ?_
        · obtain ⟨z0, z1, z2, z3, z4, z5, z6⟩ := seven hB
          obtain ⟨f0, f1, f2, f3, f4, f5, f6⟩ := seven_fr hB
          unfold put7
          go_simp
        try simp only [Act.put]
        refine lex_init rfl rfl rfl (fun bl w' hb hf hB => ⟨_, ?_, repl7 hB (.int .i64 1) (.int .i64 sb) (.int .i64 sc) (.int .i64 sd) (.int .i64 0) (.int .i64 g) (.int .i64 0)⟩) ?_
        · obtain ⟨z0, z1, z2, z3, z4, z5, z6⟩ := seven hB
          obtain ⟨f0, f1, f2, f3, f4, f5, f6⟩ := seven_fr hB
          unfold put7
          go_simp
        try simp only [Act.put]
        refine lex_nil fun w5 he => ?_
        obtain ⟨gl, hgl, hgel, hkl⟩ := he.facts 6
        obtain ⟨gr, hgr, hger, hkr⟩ := he.facts 7
        have HK5 := Lib.hid (show KA gs gl gr #[.int .i64 1, .int .i64 sb, .int .i64 sc, .int .i64 sd, .int .i64 0, .int .i64 2, .int .i64 0] #[.int .i64 1, .int .i64 sb, .int .i64 sc, .int .i64 sd, .int .i64 g, .int .i64 2, .int .i64 0] #[.int .i64 1, .int .i64 sb, .int .i64 sc, .int .i64 sd, .int .i64 0, .int .i64 g, .int .i64 0] w.heap.size w w5 from ⟨HX4.out.next he.only.below0, hkl, hkr, HB4.out.trans (he.only.below0.mono HB4.out.size)⟩)
        rw [hgl, hgr]
        clear he hkl hkr hgel hger hgl hgr HX4 HB4 HLe HRi
        go_wp2_with fail
        go_loopw [13] (fun i wr => ∃ j : Nat, j ≤ len ∧ i = .int .i64 j ∧ KA gs gl gr #[.int .i64 1, .int .i64 sb, .int .i64 sc, .int .i64 sd, .int .i64 0, .int .i64 2, .int .i64 0] #[.int .i64 1, .int .i64 sb, .int .i64 sc, .int .i64 sd, .int .i64 g, .int .i64 2, .int .i64 0] #[.int .i64 1, .int .i64 sb, .int .i64 sc, .int .i64 sd, .int .i64 0, .int .i64 g, .int .i64 0] w.heap.size w wr) (fun i _ => len - (intOf i).toNat)
        case atStart => exact ⟨0, by omega, rfl, HK5.out⟩
        case round =>
          obtain ⟨j, hj, rfl, hka⟩ := hrel
          have HKr := Lib.hid hka
          clear hka
          by_cases hlt : j < len
          · have m1 : decide ((j : Int) < (len : Int)) = true := by simp; omega
            by_cases hlt2 : j < 100
            · have m2 : decide ((j : Int) < 100) = true := by simp; omega
              obtain ⟨ad, n0, rfl, hn0, hadb, hcell⟩ := HBy.out j hlt
              have hcell2 : wr.cell? (ad.add j) = some (.int .u8 n0) := (HKr.out.2.2.2.cell (p := ad.add j) (by rw [block_of_add]; exact hadb)).trans hcell
              have ha := and_low n0 hn0
              have hn1 : n0 % 128 < 128 := Nat.mod_lt _ (by omega)
              have h2w : (j : Int) < (len : Int) := by omega
              clear hcell hadb hj
              generalize n0 % 128 = n at *
              have ho := or_high n hn1
              have HNn := Lib.hid hn1
              clear hn1 hn0
              go_upto_region 14 with fail
              clear hcell2 m1 m2 ha
              obtain ⟨c0, c1, c2, c3, c4, c5, c6⟩ := seven HKr.out.2.1
              go_wp2_with fail
              refine (HMl.out n _ HNn.out (HT.out.next HKr.out.2.2.2)).mono ?_
              rintro e w6 ⟨rfl, hb6⟩
              have HK6 := Lib.hid (HKr.out.step hb6)
              clear hb6 c0 c1 c2 c3 c4 c5 c6 HKr
              generalize hgn : (if n < 32 then (0 : Int) else gP k n) = gn at *
              have HGn := Lib.hid hgn
              clear hgn
              go_upto_region 15 with fail
              have HY7 := Lib.hid (Blk.new w6 37 #[.int .i64 1, .int .i64 sb, .int .i64 sc, .int .i64 sd, .int .i64 g, .int .i64 2, .int .i64 0])
              have HK7 := Lib.hid (HK6.out.more (.cells #[.int .i64 1, .int .i64 sb, .int .i64 sc, .int .i64 sd, .int .i64 g, .int .i64 2, .int .i64 0] 37))
              generalize w6.alloc (.cells #[.int .i64 1, .int .i64 sb, .int .i64 sc, .int .i64 sd, .int .i64 g, .int .i64 2, .int .i64 0] 37) = w7 at *
              generalize w6.heap.size = gy at *
              clear HK6
              obtain ⟨c0, c1, c2, c3, c4, c5, c6⟩ := seven HK7.out.2.2.1
              have HMr2 := HMr.out n
              go_wp2_with fail
              refine (HMr.out n _ HNn.out (HT.out.next HK7.out.2.2.2)).mono ?_
              rw [HGn.out]
              rintro e w8 ⟨rfl, hb8⟩
              have HK8 := Lib.hid (HK7.out.step hb8)
              have HY8 := Lib.hid (HY7.out.next hb8)
              clear hb8 c0 c1 c2 c3 c4 c5 c6 HK7 HY7 ho HMr2
              go_upto_region 16 with fail
              have HZ9 := Lib.hid (Blk.new w8 37 #[.int .i64 1, .int .i64 sb, .int .i64 sc, .int .i64 sd, .int .i64 0, .int .i64 g, .int .i64 0])
              have HK9 := Lib.hid (HK8.out.more (.cells #[.int .i64 1, .int .i64 sb, .int .i64 sc, .int .i64 sd, .int .i64 0, .int .i64 g, .int .i64 0] 37))
              have HY9 := Lib.hid (HY8.out.alloc (.cells #[.int .i64 1, .int .i64 sb, .int .i64 sc, .int .i64 sd, .int .i64 0, .int .i64 g, .int .i64 0] 37))
              generalize w8.alloc (.cells #[.int .i64 1, .int .i64 sb, .int .i64 sc, .int .i64 sd, .int .i64 0, .int .i64 g, .int .i64 0] 37) = w9 at *
              generalize w8.heap.size = gz at *
              clear HK8 HY8
              have hnl : ∀ W, _ := fun W => neq_iso W 1 sb sc sd g 2 0
              have hnr : ∀ W, _ := fun W => neq_iso W 1 sb sc sd 0 g 0
              have hns : ∀ W, _ := fun W => neq_iso W 1 sb sc sd 0 2 0
              have hgi : ∀ W p q xs ys, _ := fun W p q xs ys => guard_iso W .neq p q xs ys
              by_cases h32 : n < 32
              · have t32 : decide ((n : Int) < 32) = true := by simp; omega
                have hg0 : gn = 0 := by rw [← HGn.out, if_pos h32]
                subst hg0
                clear HGn h32
                obtain ⟨c0, c1, c2, c3, c4, c5, c6⟩ := seven HK9.out.2.1
                obtain ⟨d0, d1, d2, d3, d4, d5, d6⟩ := seven HK9.out.2.2.1
                obtain ⟨e0, e1, e2, e3, e4, e5, e6⟩ := seven HY9.out
                obtain ⟨f0, f1, f2, f3, f4, f5, f6⟩ := seven HZ9.out
                go_wp2_with fail
                go_roundw
                case rel => exact ⟨j + 1, by omega, by go_num, HK9.out⟩
                case measure => simp [intOf]; omega
              · have t32 : decide ((n : Int) < 32) = false := by simp; omega
                have hg0 : gn = gP k n := by rw [← HGn.out, if_neg h32]
                have HG0 := Lib.hid hg0.symm
                have H32 := Lib.hid h32
                clear HGn hg0 h32
                go_wp2_with fail
                refine (HGl.out n _ HNn.out).mono ?_
                rw [HG0.out]
                rintro e w10 ⟨rfl, hb10⟩
                have HK10 := Lib.hid (HK9.out.step hb10)
                have HY10 := Lib.hid (HY9.out.next hb10)
                have HZ10 := Lib.hid (HZ9.out.next hb10)
                clear hb10 HK9 HY9 HZ9 t32
                obtain ⟨c0, c1, c2, c3, c4, c5, c6⟩ := seven HK10.out.2.1
                obtain ⟨d0, d1, d2, d3, d4, d5, d6⟩ := seven HK10.out.2.2.1
                obtain ⟨e0, e1, e2, e3, e4, e5, e6⟩ := seven HY10.out
                obtain ⟨f0, f1, f2, f3, f4, f5, f6⟩ := seven HZ10.out
                by_cases hg1 : 1 < g
                · have tg : decide (1 < g) = true := by simp; omega
                  have HG1 := Lib.hid hg1
                  clear hg1
                  go_upto_region 22 with fail
                  clear c0 c1 c2 c3 c4 c5 c6 d0 d1 d2 d3 d4 d5 d6 e0 e1 e2 e3 e4 e5 e6 f0 f1 f2 f3 f4 f5 f6 tg
                  obtain ⟨c0, c1, c2, c3, c4, c5, c6⟩ := seven HK10.out.1
                  go_wp2_with fail
                  refine (HOn.out HG1.out _).mono ?_
                  rintro e w11 ⟨rfl, hb11⟩
                  have HK11 := Lib.hid (HK10.out.step hb11)
                  clear hb11 c0 c1 c2 c3 c4 c5 c6 HK10 HY10 HZ10
                  go_wp2_with fail
                  refine (HMo.out HG1.out n _ HNn.out H32.out (HT.out.next HK11.out.2.2.2)).mono ?_
                  rw [HG0.out]
                  rintro e w12 ⟨rfl, hb12⟩
                  have HK12 := Lib.hid (HK11.out.step hb12)
                  clear hb12 HK11
                  go_upto_region 23 with fail
                  have HV13 := Lib.hid (Blk.new w12 37 #[.int .i64 1, .int .i64 sb, .int .i64 sc, .int .i64 sd, .int .i64 0, .int .i64 2, .int .i64 0])
                  have HK13 := Lib.hid (HK12.out.more (.cells #[.int .i64 1, .int .i64 sb, .int .i64 sc, .int .i64 sd, .int .i64 0, .int .i64 2, .int .i64 0] 37))
                  generalize w12.alloc (.cells #[.int .i64 1, .int .i64 sb, .int .i64 sc, .int .i64 sd, .int .i64 0, .int .i64 2, .int .i64 0] 37) = w13 at *
                  generalize w12.heap.size = gv at *
                  clear HK12
                  obtain ⟨c0, c1, c2, c3, c4, c5, c6⟩ := seven HK13.out.1
                  obtain ⟨d0, d1, d2, d3, d4, d5, d6⟩ := seven HV13.out
                  go_wp2_with fail
                  go_roundw
                  case rel => exact ⟨j + 1, by omega, by go_num, HK13.out⟩
                  case measure => simp [intOf]; omega
                · have tg : decide (1 < g) = false := by simp; omega
                  clear hg1
                  go_wp2_with fail
                  go_roundw
                  case rel => exact ⟨j + 1, by omega, by go_num, HK10.out⟩
                  case measure => simp [intOf]; omega
            · have m2 : decide ((j : Int) < 100) = false := by simp; omega
              have m3 : decide (j < len) = true := by simp; omega
              clear hlt hj H13
              go_upto_region 25 with fail
              refine wp_region_mix_lit (by kernel_rfl) [(0, .call nv), (2, .call (.tuple #[.int .i64 lp, .int .i64 rp, .int .u8 sz, .string tl])), (7, .call (.tuple #[.agg #[.int .i64 1, .int .i64 sb, .int .i64 sc, .int .i64 sd, .int .i64 g, .int .i64 2, .int .i64 0], .bool true])), (11, .alloc 12 37 #[.int .i64 0, .int .i64 0, .int .i64 0, .int .i64 0, .int .i64 0, .int .i64 0, .int .i64 0] (fun _ => #[.int .i64 1, .int .i64 sb, .int .i64 sc, .int .i64 sd, .int .i64 g, .int .i64 2, .int .i64 0])), (12, .init 11)] (by kernel_rfl) (by kernel_rfl) (by kernel_rfl) (by rfl) (by simp [apartK] <;> omega) (by simp [startK]) (by simp [stabK]) (⟨fun _ => .pointer (some ⟨wr.heap.size, 0, none⟩), by simp [okK]⟩) (fun β hβ => ?_)
              refine lex_call (f := 38) (args := ?_) rfl rfl (fun w' hf => ?_) (fun w' hf => ?_) ?_
              rotate_left
              · go_simp
                try rfl
              · exact HNw.out w'
              try simp only [Act.put, List.setIfInBounds_toArray, List.set_cons_zero, List.set_cons_succ]
              repeat (
                refine lex_val (v := ?_) rfl rfl (fun w' hf => ?_) ?_
                rotate_left
                · obtain ⟨c0, c1, c2, c3, c4, c5, c6⟩ := seven (HKr.out.2.1.next hf.only.below0); go_simp
                  try rfl
                try simp only [Act.put, List.setIfInBounds_toArray, List.set_cons_zero, List.set_cons_succ])
              refine lex_call (f := 39) (args := ?_) rfl rfl (fun w' hf => ?_) (fun w' hf => ?_) ?_
              rotate_left
              · go_simp
                try rfl
              · exact HRe.out w' (HT.out.next (HKr.out.step hf.only.below0).2.2.2)
              try simp only [Act.put, List.setIfInBounds_toArray, List.set_cons_zero, List.set_cons_succ]
              repeat (
                refine lex_val (v := ?_) rfl rfl (fun w' hf => ?_) ?_
                rotate_left
                · obtain ⟨c0, c1, c2, c3, c4, c5, c6⟩ := seven (HKr.out.2.1.next hf.only.below0); go_simp
                  try rfl
                try simp only [Act.put, List.setIfInBounds_toArray, List.set_cons_zero, List.set_cons_succ])
              refine lex_call (f := 32) (args := ?_) rfl rfl (fun w' hf => ?_) (fun w' hf => ?_) ?_
              rotate_left
              · go_simp
                try rfl
              · exact HRs.out w' (HT.out.next (HKr.out.step hf.only.below0).2.2.2) (HS.out.next (HKr.out.step hf.only.below0).2.2.2)
              try simp only [Act.put, List.setIfInBounds_toArray, List.set_cons_zero, List.set_cons_succ]
              repeat (
                refine lex_val (v := ?_) rfl rfl (fun w' hf => ?_) ?_
                rotate_left
                · go_simp
                  try rfl
                try simp only [Act.put, List.setIfInBounds_toArray, List.set_cons_zero, List.set_cons_succ])
              refine lex_alloc rfl rfl (fun w' => ?_) ?_
              · go_simp
              try simp only [Act.put, List.setIfInBounds_toArray, List.set_cons_zero, List.set_cons_succ]
              refine lex_init rfl rfl rfl (fun bl w' hb hf hB => ⟨_, ?_, repl7 hB (.int .i64 1) (.int .i64 sb) (.int .i64 sc) (.int .i64 sd) (.int .i64 g) (.int .i64 2) (.int .i64 0)⟩) ?_
              · obtain ⟨z0, z1, z2, z3, z4, z5, z6⟩ := seven hB
                obtain ⟨f0, f1, f2, f3, f4, f5, f6⟩ := seven_fr hB
                unfold put7
                go_simp
              try simp only [Act.put]
              repeat (
                refine lex_val (v := ?_) rfl rfl (fun w' hf => ?_) ?_
                rotate_left
                · go_simp
                  try rfl
                try simp only [Act.put, List.setIfInBounds_toArray, List.set_cons_zero, List.set_cons_succ])
              refine lex_nil fun w6 he => ?_
              obtain ⟨gb, hgb, hgeb, hkb⟩ := he.facts 11
              have HQ6 := Lib.hid (show Blk w6 gb 37 #[.int .i64 1, .int .i64 sb, .int .i64 sc, .int .i64 sd, .int .i64 g, .int .i64 2, .int .i64 0] from hkb)
              have HK6 := Lib.hid (HKr.out.step he.only.below0)
              rw [hgb]
              clear he hkb hgb hgeb HKr HRe HRs HNw
              have hel : ∀ W, _ := fun W => eql_iso W 1 sb sc sd g 2 0
              have hgi : ∀ W p q xs ys, _ := fun W p q xs ys => guard_iso W .eql p q xs ys
              obtain ⟨c0, c1, c2, c3, c4, c5, c6⟩ := seven HK6.out.2.1
              obtain ⟨d0, d1, d2, d3, d4, d5, d6⟩ := seven HQ6.out
              go_wp2_with fail
              go_ret
              exact ⟨rfl, HK6.out.2.2.2⟩
          · have m3 : decide (j < len) = false := by simp; omega
            clear hlt hj H13
            go_upto_region 25 with fail
            refine wp_region_mix_lit (by kernel_rfl) [(0, .call nv), (2, .call (.tuple #[.int .i64 lp, .int .i64 rp, .int .u8 sz, .string tl])), (7, .call (.tuple #[.agg #[.int .i64 1, .int .i64 sb, .int .i64 sc, .int .i64 sd, .int .i64 g, .int .i64 2, .int .i64 0], .bool true])), (11, .alloc 12 37 #[.int .i64 0, .int .i64 0, .int .i64 0, .int .i64 0, .int .i64 0, .int .i64 0, .int .i64 0] (fun _ => #[.int .i64 1, .int .i64 sb, .int .i64 sc, .int .i64 sd, .int .i64 g, .int .i64 2, .int .i64 0])), (12, .init 11)] (by kernel_rfl) (by kernel_rfl) (by kernel_rfl) (by rfl) (by simp [apartK] <;> omega) (by simp [startK]) (by simp [stabK]) (⟨fun _ => .pointer (some ⟨wr.heap.size, 0, none⟩), by simp [okK]⟩) (fun β hβ => ?_)
            refine lex_call (f := 38) (args := ?_) rfl rfl (fun w' hf => ?_) (fun w' hf => ?_) ?_
            rotate_left
            · go_simp
              try rfl
            · exact HNw.out w'
            try simp only [Act.put, List.setIfInBounds_toArray, List.set_cons_zero, List.set_cons_succ]
            repeat (
              refine lex_val (v := ?_) rfl rfl (fun w' hf => ?_) ?_
              rotate_left
              · obtain ⟨c0, c1, c2, c3, c4, c5, c6⟩ := seven (HKr.out.2.1.next hf.only.below0); go_simp
                try rfl
              try simp only [Act.put, List.setIfInBounds_toArray, List.set_cons_zero, List.set_cons_succ])
            refine lex_call (f := 39) (args := ?_) rfl rfl (fun w' hf => ?_) (fun w' hf => ?_) ?_
            rotate_left
            · go_simp
              try rfl
            · exact HRe.out w' (HT.out.next (HKr.out.step hf.only.below0).2.2.2)
            try simp only [Act.put, List.setIfInBounds_toArray, List.set_cons_zero, List.set_cons_succ]
            repeat (
              refine lex_val (v := ?_) rfl rfl (fun w' hf => ?_) ?_
              rotate_left
              · obtain ⟨c0, c1, c2, c3, c4, c5, c6⟩ := seven (HKr.out.2.1.next hf.only.below0); go_simp
                try rfl
              try simp only [Act.put, List.setIfInBounds_toArray, List.set_cons_zero, List.set_cons_succ])
            refine lex_call (f := 32) (args := ?_) rfl rfl (fun w' hf => ?_) (fun w' hf => ?_) ?_
            rotate_left
            · go_simp
              try rfl
            · exact HRs.out w' (HT.out.next (HKr.out.step hf.only.below0).2.2.2) (HS.out.next (HKr.out.step hf.only.below0).2.2.2)
            try simp only [Act.put, List.setIfInBounds_toArray, List.set_cons_zero, List.set_cons_succ]
            repeat (
              refine lex_val (v := ?_) rfl rfl (fun w' hf => ?_) ?_
              rotate_left
              · go_simp
                try rfl
              try simp only [Act.put, List.setIfInBounds_toArray, List.set_cons_zero, List.set_cons_succ])
            refine lex_alloc rfl rfl (fun w' => ?_) ?_
            · go_simp
            try simp only [Act.put, List.setIfInBounds_toArray, List.set_cons_zero, List.set_cons_succ]
            refine lex_init rfl rfl rfl (fun bl w' hb hf hB => ⟨_, ?_, repl7 hB (.int .i64 1) (.int .i64 sb) (.int .i64 sc) (.int .i64 sd) (.int .i64 g) (.int .i64 2) (.int .i64 0)⟩) ?_
            · obtain ⟨z0, z1, z2, z3, z4, z5, z6⟩ := seven hB
              obtain ⟨f0, f1, f2, f3, f4, f5, f6⟩ := seven_fr hB
              unfold put7
              go_simp
            try simp only [Act.put]
            repeat (
              refine lex_val (v := ?_) rfl rfl (fun w' hf => ?_) ?_
              rotate_left
              · go_simp
                try rfl
              try simp only [Act.put, List.setIfInBounds_toArray, List.set_cons_zero, List.set_cons_succ])
            refine lex_nil fun w6 he => ?_
            obtain ⟨gb, hgb, hgeb, hkb⟩ := he.facts 11
            have HQ6 := Lib.hid (show Blk w6 gb 37 #[.int .i64 1, .int .i64 sb, .int .i64 sc, .int .i64 sd, .int .i64 g, .int .i64 2, .int .i64 0] from hkb)
            have HK6 := Lib.hid (HKr.out.step he.only.below0)
            rw [hgb]
            clear he hkb hgb hgeb HKr HRe HRs HNw
            have hel : ∀ W, _ := fun W => eql_iso W 1 sb sc sd g 2 0
            have hgi : ∀ W p q xs ys, _ := fun W p q xs ys => guard_iso W .eql p q xs ys
            obtain ⟨c0, c1, c2, c3, c4, c5, c6⟩ := seven HK6.out.2.1
            obtain ⟨d0, d1, d2, d3, d4, d5, d6⟩ := seven HQ6.out
            go_wp2_with fail
            go_ret
            exact ⟨rfl, HK6.out.2.2.2⟩
    · have p1 : decide (set < 1) = false := by simp; omega
      have p2 : decide (17 < set) = true := by simp; omega
      go_enter Tryd.func11, Tryd.ntmps11
      go_wp2_with fail
      go_ret
      exact ⟨rfl, Below.refl _ _⟩
  · have p1 : decide (set < 1) = true := by simp; omega
    go_enter Tryd.func11, Tryd.ntmps11
    go_wp2_with fail
    go_ret
    exact ⟨rfl, Below.refl _ _⟩

set_option maxRecDepth 100000 in
/-- What the walk gives, for every argument and every world that holds the table. -/
theorem contract (H : Type) (enc : TypeId × Value → H) (W : World) (base : Nat) (args : Array Value) (ds gs : List (DataW H)) (before : List MemPlace)
    (hval : ∀ (j : Nat) t v, Tryd.f11.params[j]? = some t → args[j]? = some v → Value.okWide Tryd.prog W .any base t v)
    (hW : DataW.Whole enc Tryd.prog Tryd.f11.params.toList Rows.phosphorAtHandSpec.vars false W args.toList ds gs before) (hL : laidMetH Tryd.prog Rows.phosphorAtHandRow.laid W)
    (hreach : (DataW.weightsEach Tryd.prog (Tryd.f11.params.toList ++ []) (ds ++ gs)).all (· ≤ reachBytes) = true) :
    Calls Tryd.prog 11 args W fun e W' => ∃ v, e = .returned v ∧ Rows.phosphorAtHandSpec.post enc Tryd.prog Tryd.f11 false true false false W args v W' := by
  have hW' := hW
  have ht := facesB hL
  have hs := blanksB hL
  have hlts : ∀ x ∈ before, x.block < W.heap.size := fun x hx => hW'.lt x hx
  obtain ⟨p, q, hA0, hV, rfl, hfz, hnd⟩ := hW
  have hA : DataW.TrodAll enc Tryd.prog W 0 (fun _ => true) true Tryd.f11.params.toList args.toList ds p := hA0
  rw [Tryd.params11] at hA hval hreach
  obtain ⟨v0, vs0, d0, ds0, pp0, qq0, hargs, rfl, rfl, h0, rr0⟩ := trodAll_cons hA
  obtain ⟨v1, vs1, d1, ds1, pp1, qq1, rfl, rfl, rfl, h1, rr1⟩ := trodAll_cons rr0
  obtain ⟨v2, vs2, d2, ds2, pp2, qq2, rfl, rfl, rfl, h2, rr2⟩ := trodAll_cons rr1
  obtain ⟨rfl, rfl, rfl⟩ := trodAll_nil rr2
  obtain rfl : args = #[v0, v1, v2] := by cases args; simp_all
  obtain ⟨rfl, rfl⟩ := trodVars_none hV
  obtain ⟨a0, rfl, rfl, rfl, w0⟩ := open_int Tryd.underlying3 (hval 0 3 v0 rfl rfl) h0
  obtain ⟨b1, len1, cap1, rfl⟩ := okWide_slice Tryd.underlying36 (hval 1 36 v1 rfl rfl)
  have hri1 := bytes_in h1
  obtain ⟨a2, rfl, rfl, rfl, w2⟩ := open_int Tryd.underlying3 (hval 2 3 v2 rfl rfl) h2
  clear hA0
  refine (walk a0 b1 len1 cap1 a2 W ht hs hri1).mono fun e W' ⟨he, hb⟩ => ?_
  subst he
  exact ⟨_, rfl, post_law laidOut (by kernel_rfl) (by kernel_rfl) rfl hW' rfl hb⟩

set_option maxRecDepth 100000 in
theorem laid_met (os : Os) : laidMet Tryd.prog Rows.phosphorAtHandRow.laid ((laidWorldB os).forCall (fun _ _ => 0) ⟨#[], #[Value.int .i64 0, Value.slice none 0 0, Value.int .i64 0], []⟩).memory :=
  laid_metB os _
set_option maxRecDepth 100000 in
theorem reads (os : Os) {H : Type} (enc : TypeId × Value → H) : ∃ places, DataW.whole enc Tryd.prog ((laidWorldB os).forCall (fun _ _ => 0) ⟨#[], #[Value.int .i64 0, Value.slice none 0 0, Value.int .i64 0], []⟩).memory Tryd.f11.params.toList Rows.phosphorAtHandSpec.vars false (#[Value.int .i64 0, Value.slice none 0 0, Value.int .i64 0] : Array Value).toList 8 = some ([.lit (.int .i64 0), .nil, .lit (.int .i64 0)], [], places) :=
  ⟨[], by kernel_rfl⟩

set_option maxRecDepth 100000 in
theorem lifted (os : Os) (started : os.Started) (H : Type) (enc : TypeId × Value → H) (F : Stop.Interp) :
    ReturnsInHanded {} Tryd.checked os 11 .any ((OpenSpec.ofChange Rows.phosphorAtHandSpec).preRow enc Tryd.prog Tryd.f11 Rows.phosphorAtHandRow.domain false Rows.phosphorAtHandRow.laid) (((OpenSpec.ofChange Rows.phosphorAtHandSpec).at F).post enc Tryd.prog Tryd.f11 false true false false) := by
  obtain ⟨places, hx⟩ := reads os enc
  refine returnsInHanded_of_row (C := Tryd.checked) (s := OpenSpec.ofChange Rows.phosphorAtHandSpec) own started (by kernel_rfl) Tryd.func11
    (witness_row_atRef (enc := enc) (C := Tryd.checked) false (laidWorldB os) #[Value.int .i64 0, Value.slice none 0 0, Value.int .i64 0] rfl (by kernel_rfl) (by kernel_rfl) (by kernel_rfl)
      (OpenSpec.preRow_of_cond 8 hx (by kernel_rfl) (fun k hk => by cases hk) (by kernel_rfl) (laid_met os))) ?_
  intro W base args ds gs before hval hW _ _ hreach hL _ _
  exact contract H enc W base args ds gs before hval hW hL hreach

theorem said : Rows.PhosphorAtHandSaid :=
  OpenClaim.holds_of_cond 11 Tryd.f11 rfl rfl rfl rfl rfl rfl rfl ⟨rfl, rfl, rfl, rfl, rfl⟩ rfl rfl rfl rfl rfl (by kernel_rfl) Tryd.func11 (by kernel_rfl)
    (of_decide_eq_true (by kernel_rfl)) (by unfold Func.isWrapper; first | (rw [if_pos (by decide +kernel)]; kernel_rfl) | (rw [if_neg (by decide +kernel)]; exact ⟨rfl, rfl⟩))
    (fun os started H enc _ F => by rw [OpenClaim.pre_eq_preRow]; exact lifted os started H enc F)

theorem plain (f : FuncId) (fn : Func) (hf : Tryd.pinned.checked.prog.funcNamed "phosphor/phosphortop.PhosphorAtHand" = some f) (hfn : Tryd.pinned.checked.prog.funcs[f]? = some fn) :
    false = Tryd.pinned.checked.prog.looks [] ∧ ∀ (j : Nat) t, fn.params[j]? = some t → Tryd.pinned.checked.prog.wantsStandIn t = false := by
  obtain rfl : f = 11 := Option.some.inj ((show Tryd.prog.funcNamed "phosphor/phosphortop.PhosphorAtHand" = some 11 by kernel_rfl).symm.trans hf) |>.symm
  obtain rfl : fn = Tryd.f11 := (Option.some.inj (Tryd.func11.symm.trans hfn)).symm
  refine ⟨by kernel_rfl, fun j t ht => ?_⟩
  rw [Tryd.params11] at ht
  have hm : t ∈ [3, 36, 3] := by simpa using Array.mem_of_getElem? ht
  have hall : ([3, 36, 3].all fun u => !Tryd.prog.wantsStandIn u) = true := by kernel_rfl
  exact (show Tryd.prog.wantsStandIn t = false by simpa using List.all_eq_true.1 hall t hm)

/-- The card. -/
theorem card : Rows.PhosphorAtHandCardSaid :=
  Claim7.holds_tied_plain_at .later [] _ _ _ _ said (fun _ h => by cases h) (by kernel_rfl) (fun _ h => by cases h) phosphorAtHand_row_tie rfl ⟨rfl, rfl⟩ (by kernel_rfl) rfl plain (by kernel_rfl)
#print axioms card
end Go.Proofs.YtandfpghjbbalaaDoor.phosphorAtHand

/-
  IsoReports holds, whatever the input: the card of the statement, with the table of the sets' faces and the library's two tables of blanks tied to the program's text.
-/
import Derived.Test.YtandfpghjbbalaaDoorCards
import Derived.Test.YtandfpghjbbalaaDoorTie
import Derived.Test.YtandfpghjbbalaaDoorFrameW
import Derived.Test.YtandfpghjbbalaaDoorIsoO
import Derived.Test.YtandfpghjbbalaaDoorIsoF
import Derived.Test.YtandfpghjbbalaaDoorIsoI
import Derived.Test.YtandfpghjbbalaaDoorFrameI
namespace Go.Proofs.YtandfpghjbbalaaDoor.isoReports
open Go.ChangeShapes Go.WideShapes Go.ChangeAt Go.RowKit
open Go.ChangeMaps (open_string)

/-- So far the sets are such as can be told. -/
def gdB (x : Iso) (gr : Int) : Nat → Bool
  | 0 => decide (gr > 0)
  | k + 1 => gdB x gr k && (decide (1 ≤ x.at_ k) && (decide (x.at_ k ≤ 17) && (decide (0 < k) || (x.at_ k != 5))))
theorem gd_good (x : Iso) (gr : Int) (h : gdB x gr 4 = true) : goodI x ∧ 0 < gr := by
  simp only [gdB, Bool.and_eq_true, Bool.or_eq_true, decide_eq_true_eq, bne_iff_ne] at h
  obtain ⟨⟨⟨⟨h0, a1, a2, a3⟩, b1, b2, _⟩, c1, c2, _⟩, d1, d2, _⟩ := h
  refine ⟨fun g hg => ?_, h0⟩
  have hs : g = 0 ∨ g = 1 ∨ g = 2 ∨ g = 3 := by omega
  rcases hs with rfl | rfl | rfl | rfl
  · exact ⟨a1, a2, fun _ => a3.resolve_left (by omega)⟩
  · exact ⟨b1, b2, fun h => absurd h (by omega)⟩
  · exact ⟨c1, c2, fun h => absurd h (by omega)⟩
  · exact ⟨d1, d2, fun h => absurd h (by omega)⟩
theorem at_index (xa xb xc xd xl xr xs : Int) (k : Nat) (hk : k < 4) (W : World) : (Instr.index 33 (.agg #[.int .i64 xa, .int .i64 xb, .int .i64 xc, .int .i64 xd]) (.int .i64 k)).run Tryd.prog W = .ok (.int .i64 (Iso.at_ ⟨xa, xb, xc, xd, xl, xr, xs⟩ k)) W := by
  have hs : k = 0 ∨ k = 1 ∨ k = 2 ∨ k = 3 := by omega
  rcases hs with rfl | rfl | rfl | rfl
  · have h : ∀ W, (Instr.index 33 (.agg #[.int .i64 xa, .int .i64 xb, .int .i64 xc, .int .i64 xd]) (.int .i64 0)).run Tryd.prog W = .ok (.int .i64 xa) W := fun W => by kernel_rfl
    exact h W
  · have h : ∀ W, (Instr.index 33 (.agg #[.int .i64 xa, .int .i64 xb, .int .i64 xc, .int .i64 xd]) (.int .i64 1)).run Tryd.prog W = .ok (.int .i64 xb) W := fun W => by kernel_rfl
    exact h W
  · have h : ∀ W, (Instr.index 33 (.agg #[.int .i64 xa, .int .i64 xb, .int .i64 xc, .int .i64 xd]) (.int .i64 2)).run Tryd.prog W = .ok (.int .i64 xc) W := fun W => by kernel_rfl
    exact h W
  · have h : ∀ W, (Instr.index 33 (.agg #[.int .i64 xa, .int .i64 xb, .int .i64 xc, .int .i64 xd]) (.int .i64 3)).run Tryd.prog W = .ok (.int .i64 xd) W := fun W => by kernel_rfl
    exact h W
theorem rest_eq (x y : Iso) (n : Iso) (ok : Bool) (hn : (n, ok) = restP y (leftP x) (rightP x) (sizP x 4) (idtP x 4)) : gdB x (rightP x) 4 = true → n = ⟨x.a, x.b, x.c, x.d, leftP x, rightP x, y.s⟩ ∧ ok = true := by
  intro h
  obtain ⟨h1, h2⟩ := gd_good x _ h
  rw [rest_good x y h1 h2] at hn
  exact ⟨congrArg Prod.fst hn, congrArg Prod.snd hn⟩
set_option maxRecDepth 100000 in
set_option maxHeartbeats 16000000 in
theorem walk (xa xb xc xd xl xr xs ya yb yc yd yl yr ys : Int) (t : ByteArray) (hsz : t.size ≤ maxLen) (w : World) (ht : Faces w) (hs : Blanks w) :
    Calls Tryd.prog 9 #[.agg #[.int .i64 xa, .int .i64 xb, .int .i64 xc, .int .i64 xd, .int .i64 xl, .int .i64 xr, .int .i64 xs], .agg #[.int .i64 ya, .int .i64 yb, .int .i64 yc, .int .i64 yd, .int .i64 yl, .int .i64 yr, .int .i64 ys], .string t] w fun e w' => e = .returned (.bool true) ∧ Below w.heap.size w w' := by
  have HAw := Lib.hid (fun W t s => isoAwake_any W t s)
  have HT := Lib.hid ht; have HS := Lib.hid hs; have HSz := Lib.hid hsz
  clear ht hs hsz
  have HOx := Lib.hid (fun W => lawOwn_any ⟨xa, xb, xc, xd, xl, xr, xs⟩ W)
  have HOy := Lib.hid (fun W => lawOwn_any ⟨ya, yb, yc, yd, yl, yr, ys⟩ W)
  have HRp := Lib.hid (fun W t => report_any ⟨xa, xb, xc, xd, xl, xr, xs⟩ W t)
  have HUs := Lib.hid (fun W => used_any ⟨xa, xb, xc, xd, xl, xr, xs⟩ W)
  have HRr := Lib.hid (fun W => refReport_any ⟨xa, xb, xc, xd, xl, xr, xs⟩ W)
  have hz1 : sizP ⟨xa, xb, xc, xd, xl, xr, xs⟩ 4 < 256 := by have := siz_le ⟨xa, xb, xc, xd, xl, xr, xs⟩ 4; omega
  have hz2 : (idtP ⟨xa, xb, xc, xd, xl, xr, xs⟩ 4).size ≤ 100000 := by have := idt_size ⟨xa, xb, xc, xd, xl, xr, xs⟩ 4; omega
  obtain ⟨⟨n, ok⟩, hn⟩ : ∃ q, q = restP ⟨ya, yb, yc, yd, yl, yr, ys⟩ (leftP ⟨xa, xb, xc, xd, xl, xr, xs⟩) (rightP ⟨xa, xb, xc, xd, xl, xr, xs⟩) (sizP ⟨xa, xb, xc, xd, xl, xr, xs⟩ 4) (idtP ⟨xa, xb, xc, xd, xl, xr, xs⟩ 4) := ⟨_, rfl⟩
  have HG := Lib.hid (rest_eq ⟨xa, xb, xc, xd, xl, xr, xs⟩ ⟨ya, yb, yc, yd, yl, yr, ys⟩ n ok hn)
  obtain ⟨na, nb, nc, nd, nl, nr, ns⟩ := n
  have HR1 : Hid (∀ W, Faces W → Blanks W → Calls Tryd.prog 32 #[.agg #[.int .i64 ya, .int .i64 yb, .int .i64 yc, .int .i64 yd, .int .i64 yl, .int .i64 yr, .int .i64 ys], .int .i64 (leftP ⟨xa, xb, xc, xd, xl, xr, xs⟩), .int .i64 (rightP ⟨xa, xb, xc, xd, xl, xr, xs⟩), .int .u8 (sizP ⟨xa, xb, xc, xd, xl, xr, xs⟩ 4), .string (idtP ⟨xa, xb, xc, xd, xl, xr, xs⟩ 4)] W fun e w' => e = .returned (.tuple #[.agg #[.int .i64 na, .int .i64 nb, .int .i64 nc, .int .i64 nd, .int .i64 nl, .int .i64 nr, .int .i64 ns], .bool ok]) ∧ Below W.heap.size W w') := Lib.hid (fun W t s => by have := restore_any ⟨ya, yb, yc, yd, yl, yr, ys⟩ (leftP ⟨xa, xb, xc, xd, xl, xr, xs⟩) (rightP ⟨xa, xb, xc, xd, xl, xr, xs⟩) _ hz1 (idtP ⟨xa, xb, xc, xd, xl, xr, xs⟩ 4) W t s; rw [← hn] at this; exact this)
  have HR2 : Hid (∀ W, Calls Tryd.prog 33 #[.agg #[.int .i64 ya, .int .i64 yb, .int .i64 yc, .int .i64 yd, .int .i64 yl, .int .i64 yr, .int .i64 ys], .int .i64 (leftP ⟨xa, xb, xc, xd, xl, xr, xs⟩), .int .i64 (rightP ⟨xa, xb, xc, xd, xl, xr, xs⟩), .int .u8 (sizP ⟨xa, xb, xc, xd, xl, xr, xs⟩ 4), .string (idtP ⟨xa, xb, xc, xd, xl, xr, xs⟩ 4)] W fun e w' => e = .returned (.tuple #[.agg #[.int .i64 na, .int .i64 nb, .int .i64 nc, .int .i64 nd, .int .i64 nl, .int .i64 nr, .int .i64 ns], .bool ok]) ∧ Below W.heap.size W w') := Lib.hid (fun W => by have := refRestore_any ⟨ya, yb, yc, yd, yl, yr, ys⟩ (leftP ⟨xa, xb, xc, xd, xl, xr, xs⟩) (rightP ⟨xa, xb, xc, xd, xl, xr, xs⟩) _ hz1 (idtP ⟨xa, xb, xc, xd, xl, xr, xs⟩ 4) hz2 W; rw [← hn] at this; exact this)
  have HR3 := Lib.hid (fun t W f s => restore_any ⟨ya, yb, yc, yd, yl, yr, ys⟩ xl xr (sizP ⟨xa, xb, xc, xd, xl, xr, xs⟩ 4) hz1 t W f s)
  have HR4 := Lib.hid (fun t h W => refRestore_any ⟨ya, yb, yc, yd, yl, yr, ys⟩ xl xr (sizP ⟨xa, xb, xc, xd, xl, xr, xs⟩ 4) hz1 t h W)
  have HG0 : gdB ⟨xa, xb, xc, xd, xl, xr, xs⟩ (rightP ⟨xa, xb, xc, xd, xl, xr, xs⟩) 0 = decide (rightP ⟨xa, xb, xc, xd, xl, xr, xs⟩ > 0) := rfl
  have HGs : Hid (∀ k, gdB ⟨xa, xb, xc, xd, xl, xr, xs⟩ (rightP ⟨xa, xb, xc, xd, xl, xr, xs⟩) (k + 1) = (gdB ⟨xa, xb, xc, xd, xl, xr, xs⟩ (rightP ⟨xa, xb, xc, xd, xl, xr, xs⟩) k && (decide (1 ≤ Iso.at_ ⟨xa, xb, xc, xd, xl, xr, xs⟩ k) && (decide (Iso.at_ ⟨xa, xb, xc, xd, xl, xr, xs⟩ k ≤ 17) && (decide (0 < k) || (Iso.at_ ⟨xa, xb, xc, xd, xl, xr, xs⟩ k != 5)))))) := Lib.hid (fun k => rfl)
  have HIx := Lib.hid (fun k hk W => at_index xa xb xc xd xl xr xs k hk W)
  clear hn hz1 hz2
  unfold rptV at HRp
  generalize leftP ⟨xa, xb, xc, xd, xl, xr, xs⟩ = lp at *
  generalize gdB ⟨xa, xb, xc, xd, xl, xr, xs⟩ (rightP ⟨xa, xb, xc, xd, xl, xr, xs⟩) = gd at *
  generalize rightP ⟨xa, xb, xc, xd, xl, xr, xs⟩ = rp at *
  generalize sizP ⟨xa, xb, xc, xd, xl, xr, xs⟩ 4 = sz at *
  generalize idtP ⟨xa, xb, xc, xd, xl, xr, xs⟩ 4 = tl at *
  generalize Iso.at_ ⟨xa, xb, xc, xd, xl, xr, xs⟩ = at_ at *
  unfold Iso.val Iso.cs at *
  simp only at HOx HOy HRp HUs HRr HR3 HR4
  have HTl := Lib.hid (fun y W => told_any y W)
  unfold Iso.val Iso.cs at HTl
  have HK0 := Lib.hid (show Blk ((w.alloc (.cells #[.int .i64 xa, .int .i64 xb, .int .i64 xc, .int .i64 xd, .int .i64 xl, .int .i64 xr, .int .i64 xs] 35)).alloc (.cells #[.int .i64 ya, .int .i64 yb, .int .i64 yc, .int .i64 yd, .int .i64 yl, .int .i64 yr, .int .i64 ys] 35)) w.heap.size 35 #[.int .i64 xa, .int .i64 xb, .int .i64 xc, .int .i64 xd, .int .i64 xl, .int .i64 xr, .int .i64 xs] ∧ Blk ((w.alloc (.cells #[.int .i64 xa, .int .i64 xb, .int .i64 xc, .int .i64 xd, .int .i64 xl, .int .i64 xr, .int .i64 xs] 35)).alloc (.cells #[.int .i64 ya, .int .i64 yb, .int .i64 yc, .int .i64 yd, .int .i64 yl, .int .i64 yr, .int .i64 ys] 35)) (w.heap.size + 1) 35 #[.int .i64 ya, .int .i64 yb, .int .i64 yc, .int .i64 yd, .int .i64 yl, .int .i64 yr, .int .i64 ys] ∧ Below w.heap.size w ((w.alloc (.cells #[.int .i64 xa, .int .i64 xb, .int .i64 xc, .int .i64 xd, .int .i64 xl, .int .i64 xr, .int .i64 xs] 35)).alloc (.cells #[.int .i64 ya, .int .i64 yb, .int .i64 yc, .int .i64 yd, .int .i64 yl, .int .i64 yr, .int .i64 ys] 35)) from ⟨(Blk.new w _ _).alloc _, by have := Blk.new (w.alloc (.cells #[.int .i64 xa, .int .i64 xb, .int .i64 xc, .int .i64 xd, .int .i64 xl, .int .i64 xr, .int .i64 xs] 35)) 35 #[.int .i64 ya, .int .i64 yb, .int .i64 yc, .int .i64 yd, .int .i64 yl, .int .i64 yr, .int .i64 ys]; simpa using this, ((Below.refl _ _).alloc (Nat.le_refl _) _).alloc (by simp) _⟩)
  have HNx : Hid (∀ {W W'}, (Blk W w.heap.size 35 #[.int .i64 xa, .int .i64 xb, .int .i64 xc, .int .i64 xd, .int .i64 xl, .int .i64 xr, .int .i64 xs] ∧ Blk W (w.heap.size + 1) 35 #[.int .i64 ya, .int .i64 yb, .int .i64 yc, .int .i64 yd, .int .i64 yl, .int .i64 yr, .int .i64 ys] ∧ Below w.heap.size w W) → Below W.heap.size W W' → (Blk W' w.heap.size 35 #[.int .i64 xa, .int .i64 xb, .int .i64 xc, .int .i64 xd, .int .i64 xl, .int .i64 xr, .int .i64 xs] ∧ Blk W' (w.heap.size + 1) 35 #[.int .i64 ya, .int .i64 yb, .int .i64 yc, .int .i64 yd, .int .i64 yl, .int .i64 yr, .int .i64 ys] ∧ Below w.heap.size w W')) := Lib.hid (fun h hb => ⟨h.1.next hb, h.2.1.next hb, h.2.2.trans (hb.mono h.2.2.size)⟩)
  go_enter Tryd.func9, Tryd.ntmps9
  go_wp2_with fail
  refine (HAw.out _ (HT.out.next HK0.out.2.2) (HS.out.next HK0.out.2.2)).mono ?_
  rintro e w1 ⟨rfl, hb1⟩
  have HK1 := Lib.hid (HNx.out HK0.out hb1)
  clear hb1
  obtain ⟨c0, c1, c2, c3, c4, c5, c6⟩ := seven HK1.out.1
  go_wp2_with fail
  refine (HOx.out _).mono ?_
  rintro e w2 ⟨rfl, hb2⟩
  have HK2 := Lib.hid (HNx.out HK1.out hb2)
  clear hb2 c0 c1 c2 c3 c4 c5 c6
  go_wp2_with fail
  refine (HRp.out _ (HT.out.next HK2.out.2.2)).mono ?_
  rintro e w3 ⟨rfl, hb3⟩
  have HK3 := Lib.hid (HNx.out HK2.out hb3)
  clear hb3
  obtain ⟨c0, c1, c2, c3, c4, c5, c6⟩ := seven HK3.out.1
  go_wp2_with fail
  refine (HUs.out _).mono ?_
  rintro e w4 ⟨rfl, hb4⟩
  have HK4 := Lib.hid (HNx.out HK3.out hb4)
  clear hb4 c0 c1 c2 c3 c4 c5 c6
  obtain ⟨c0, c1, c2, c3, c4, c5, c6⟩ := seven HK4.out.1
  go_wp2_with fail
  refine (HRr.out _).mono ?_
  rintro e w5 ⟨rfl, hb5⟩
  have HK5 := Lib.hid (HNx.out HK4.out hb5)
  clear hb5 c0 c1 c2 c3 c4 c5 c6
  obtain ⟨d0, d1, d2, d3, d4, d5, d6⟩ := seven HK5.out.2.1
  go_wp2_with fail
  refine (HOy.out _).mono ?_
  rintro e w6 ⟨rfl, hb6⟩
  have HK6 := Lib.hid (HNx.out HK5.out hb6)
  clear hb6 d0 d1 d2 d3 d4 d5 d6
  go_wp2_with fail
  refine (HR1.out _ (HT.out.next HK6.out.2.2) (HS.out.next HK6.out.2.2)).mono ?_
  rintro e w7 ⟨rfl, hb7⟩
  have HK7 := Lib.hid (HNx.out HK6.out hb7)
  clear hb7
  go_upto_region 9 with fail
  have HP8 := Lib.hid (Blk.new w7 37 #[.int .i64 na, .int .i64 nb, .int .i64 nc, .int .i64 nd, .int .i64 nl, .int .i64 nr, .int .i64 ns])
  have HK8 := Lib.hid (HNx.out HK7.out ((Below.refl _ _).alloc (Nat.le_refl _) (.cells #[.int .i64 na, .int .i64 nb, .int .i64 nc, .int .i64 nd, .int .i64 nl, .int .i64 nr, .int .i64 ns] 37)))
  generalize w7.alloc (.cells #[.int .i64 na, .int .i64 nb, .int .i64 nc, .int .i64 nd, .int .i64 nl, .int .i64 nr, .int .i64 ns] 37) = w8 at *
  generalize w7.heap.size = gp at *
  obtain ⟨d0, d1, d2, d3, d4, d5, d6⟩ := seven HK8.out.2.1
  go_wp2_with fail
  refine (HR2.out _).mono ?_
  rintro e w9 ⟨rfl, hb9⟩
  have HK9 := Lib.hid (HNx.out HK8.out hb9)
  have HP9 := Lib.hid (HP8.out.next hb9)
  clear hb9 d0 d1 d2 d3 d4 d5 d6
  go_upto_region 10 with fail
  have HQ10 := Lib.hid (Blk.new w9 35 #[.int .i64 na, .int .i64 nb, .int .i64 nc, .int .i64 nd, .int .i64 nl, .int .i64 nr, .int .i64 ns])
  have HP10 := Lib.hid (HP9.out.alloc (.cells #[.int .i64 na, .int .i64 nb, .int .i64 nc, .int .i64 nd, .int .i64 nl, .int .i64 nr, .int .i64 ns] 35))
  have HK10 := Lib.hid (HNx.out HK9.out ((Below.refl _ _).alloc (Nat.le_refl _) (.cells #[.int .i64 na, .int .i64 nb, .int .i64 nc, .int .i64 nd, .int .i64 nl, .int .i64 nr, .int .i64 ns] 35)))
  generalize w9.alloc (.cells #[.int .i64 na, .int .i64 nb, .int .i64 nc, .int .i64 nd, .int .i64 nl, .int .i64 nr, .int .i64 ns] 35) = w10 at *
  generalize w9.heap.size = gq at *
  clear HK0 HK1 HK2 HK3 HK4 HK5 HK6 HK7 HK8 HK9 HP8 HP9 HAw HOx HRp HUs HRr HR1 HR2
  have hok : (ok != ok) = false := by simp
  have hnr : ∀ W, _ := fun W => neq_ref W na nb nc nd nl nr ns
  have hgr : ∀ W p q xs ys, _ := fun W p q xs ys => guard_ref W .neq p q xs ys
  have HTn : Hid (∀ W, Calls Tryd.prog 34 #[.agg #[.int .i64 na, .int .i64 nb, .int .i64 nc, .int .i64 nd, .int .i64 nl, .int .i64 nr, .int .i64 ns]] W fun e w' => e = .returned (.agg #[.int .i64 na, .int .i64 nb, .int .i64 nc, .int .i64 nd, .int .i64 nl, .int .i64 nr, .int .i64 ns]) ∧ Below W.heap.size W w') := Lib.hid (fun W => HTl.out ⟨na, nb, nc, nd, nl, nr, ns⟩ W)
  refine wp_region_mix_lit (by kernel_rfl) [(5, .call (.agg #[.int .i64 na, .int .i64 nb, .int .i64 nc, .int .i64 nd, .int .i64 nl, .int .i64 nr, .int .i64 ns]))] (by kernel_rfl) (by kernel_rfl) (by kernel_rfl) (by rfl) (by simp [apartK] <;> omega) (by simp [startK]) (by simp [stabK]) (⟨fun _ => undef, by simp [okK]⟩) (fun β hβ => ?_)
  repeat (
    refine lex_val (v := ?_) rfl rfl (fun w' hf => ?_) ?_
    rotate_left
    · obtain ⟨c0, c1, c2, c3, c4, c5, c6⟩ := seven (HP10.out.next hf.only.below0); obtain ⟨d0, d1, d2, d3, d4, d5, d6⟩ := seven (HQ10.out.next hf.only.below0); go_simp
      try rfl
    try simp only [Act.put, List.setIfInBounds_toArray, List.set_cons_zero, List.set_cons_succ])
  refine lex_call (f := 34) (args := ?_) rfl rfl (fun w' hf => ?_) (fun w' hf => ?_) ?_
  rotate_left
  · obtain ⟨c0, c1, c2, c3, c4, c5, c6⟩ := seven (HP10.out.next hf.only.below0); obtain ⟨d0, d1, d2, d3, d4, d5, d6⟩ := seven (HQ10.out.next hf.only.below0); go_simp
    try rfl
  · obtain ⟨c0, c1, c2, c3, c4, c5, c6⟩ := seven (HP10.out.next hf.only.below0); obtain ⟨d0, d1, d2, d3, d4, d5, d6⟩ := seven (HQ10.out.next hf.only.below0); exact HTn.out w'
  try simp only [Act.put, List.setIfInBounds_toArray, List.set_cons_zero, List.set_cons_succ]
  repeat (
    refine lex_val (v := ?_) rfl rfl (fun w' hf => ?_) ?_
    rotate_left
    · obtain ⟨c0, c1, c2, c3, c4, c5, c6⟩ := seven (HP10.out.next hf.only.below0); obtain ⟨d0, d1, d2, d3, d4, d5, d6⟩ := seven (HQ10.out.next hf.only.below0); go_simp
      try rfl
    try simp only [Act.put, List.setIfInBounds_toArray, List.set_cons_zero, List.set_cons_succ])
  refine lex_nil fun w11 he => ?_
  have HP11 := Lib.hid (HP10.out.next he.only.below0)
  have HK11 := Lib.hid (HNx.out HK10.out he.only.below0)
  clear he HP10 HQ10 HK10 HTn hnr hgr hok
  obtain ⟨c0, c1, c2, c3, c4, c5, c6⟩ := seven HK11.out.1
  have HR0 := Lib.hid HG0
  clear HG0
  go_wp2_with fail
  go_loopw [19, 94] (fun g i wr => ∃ k : Nat, k ≤ 4 ∧ i = .int .i64 k ∧ g = .bool (gd k) ∧ wr = w11) (fun _ i _ => 4 - (intOf i).toNat)
  case atStart => exact ⟨0, by omega, rfl, by rw [HR0.out], rfl⟩
  case round =>
    obtain ⟨k, hk, rfl, rfl, rfl⟩ := hrel
    by_cases hlt : k < 4
    · have hix : ∀ W, _ := HIx.out k hlt
      have hs1 := HGs.out k
      generalize at_ (k : Int) = z at *
      clear hk
      rcases hg : gd k with _ | _
      · rw [hg] at hs1
        have HS1 := Lib.hid hs1
        clear hs1 hg
        go_wp2_with fail
        go_roundw
        case rel => exact ⟨k + 1, by omega, by go_num, by rw [HS1.out]; rfl, trivial⟩
        case measure => simp [intOf]; omega
      · rw [hg] at hs1
        rcases q1 : decide (1 ≤ z) with _ | _
        · rw [q1] at hs1
          have HS1 := Lib.hid hs1
          clear hs1 hg
          go_wp2_with fail
          go_roundw
          case rel => exact ⟨k + 1, by omega, by go_num, by rw [HS1.out]; rfl, trivial⟩
          case measure => simp [intOf]; omega
        · rw [q1] at hs1
          rcases q2 : decide (z ≤ 17) with _ | _
          · rw [q2] at hs1
            have HS1 := Lib.hid hs1
            clear hs1 hg
            go_wp2_with fail
            go_roundw
            case rel => exact ⟨k + 1, by omega, by go_num, by rw [HS1.out]; rfl, trivial⟩
            case measure => simp [intOf]; omega
          · rw [q2] at hs1
            by_cases hk0 : 0 < k
            · rw [decide_eq_true hk0] at hs1
              have q3 : decide ((0 : Int) < (k : Int)) = true := by simp; omega
              have HS1 := Lib.hid hs1
              clear hs1 hg
              go_wp2_with fail
              go_roundw
              case rel => exact ⟨k + 1, by omega, by go_num, by rw [HS1.out]; rfl, trivial⟩
              case measure => simp [intOf]; omega
            · rw [decide_eq_false hk0] at hs1
              have q3 : decide ((0 : Int) < (k : Int)) = false := by simp; omega
              have HS1 := Lib.hid hs1
              clear hs1 hg
              rcases q4 : (z != 5) with _ | _
              all_goals
                rw [q4] at HS1
                go_wp2_with fail
                go_roundw
                case rel => exact ⟨k + 1, by omega, by go_num, by rw [HS1.out]; rfl, trivial⟩
                case measure => simp [intOf]; omega
    · obtain rfl : k = 4 := by omega
      clear hk hlt HGs HIx HR0
      have HG4 := HG
      rcases hg : gd 4 with _ | _
      · clear HG HG4
        go_upto_region 20 with fail
        clear HP11
        by_cases h100 : t.size ≤ 100
        · have g100 : decide ((100 : Int) < (t.size : Int)) = false := by simp; omega
          obtain ⟨⟨m, mok⟩, hm⟩ : ∃ q, q = restP ⟨ya, yb, yc, yd, yl, yr, ys⟩ xl xr sz t := ⟨_, rfl⟩
          have hu : t.size ≤ 100000 := by omega
          obtain ⟨ma, mb, mc, md, ml, mr, ms⟩ := m
          have HU3 : Hid (∀ W, Faces W → Blanks W → Calls Tryd.prog 32 #[.agg #[.int .i64 ya, .int .i64 yb, .int .i64 yc, .int .i64 yd, .int .i64 yl, .int .i64 yr, .int .i64 ys], .int .i64 xl, .int .i64 xr, .int .u8 sz, .string t] W fun e w' => e = .returned (.tuple #[.agg #[.int .i64 ma, .int .i64 mb, .int .i64 mc, .int .i64 md, .int .i64 ml, .int .i64 mr, .int .i64 ms], .bool mok]) ∧ Below W.heap.size W w') := Lib.hid (fun W t1 s1 => by have := HR3.out t W t1 s1; rw [← hm] at this; exact this)
          have HU4 : Hid (∀ W, Calls Tryd.prog 33 #[.agg #[.int .i64 ya, .int .i64 yb, .int .i64 yc, .int .i64 yd, .int .i64 yl, .int .i64 yr, .int .i64 ys], .int .i64 xl, .int .i64 xr, .int .u8 sz, .string t] W fun e w' => e = .returned (.tuple #[.agg #[.int .i64 ma, .int .i64 mb, .int .i64 mc, .int .i64 md, .int .i64 ml, .int .i64 mr, .int .i64 ms], .bool mok]) ∧ Below W.heap.size W w') := Lib.hid (fun W => by have := HR4.out t hu W; rw [← hm] at this; exact this)
          have HTm : Hid (∀ W, Calls Tryd.prog 34 #[.agg #[.int .i64 ma, .int .i64 mb, .int .i64 mc, .int .i64 md, .int .i64 ml, .int .i64 mr, .int .i64 ms]] W fun e w' => e = .returned (.agg #[.int .i64 ma, .int .i64 mb, .int .i64 mc, .int .i64 md, .int .i64 ml, .int .i64 mr, .int .i64 ms]) ∧ Below W.heap.size W w') := Lib.hid (fun W => HTl.out ⟨ma, mb, mc, md, ml, mr, ms⟩ W)
          clear hm hu HR3 HR4 HTl h100
          go_upto_region 22 with fail
          clear g100
          refine wp_region_mix_lit (by kernel_rfl) [(1, .call (.agg #[.int .i64 ya, .int .i64 yb, .int .i64 yc, .int .i64 yd, .int .i64 yl, .int .i64 yr, .int .i64 ys])), (8, .call (.tuple #[.agg #[.int .i64 ma, .int .i64 mb, .int .i64 mc, .int .i64 md, .int .i64 ml, .int .i64 mr, .int .i64 ms], .bool mok])), (12, .alloc 13 37 #[.int .i64 0, .int .i64 0, .int .i64 0, .int .i64 0, .int .i64 0, .int .i64 0, .int .i64 0] (fun _ => #[.int .i64 ma, .int .i64 mb, .int .i64 mc, .int .i64 md, .int .i64 ml, .int .i64 mr, .int .i64 ms])), (13, .init 12)] (by kernel_rfl) (by kernel_rfl) (by kernel_rfl) (by rfl) (by simp [apartK] <;> omega) (by simp [startK]) (by simp [stabK]) (⟨fun _ => .pointer (some ⟨wr.heap.size, 0, none⟩), by simp [okK]⟩) (fun β hβ => ?_)
          repeat (
            refine lex_val (v := ?_) rfl rfl (fun w' hf => ?_) ?_
            rotate_left
            · obtain ⟨c0, c1, c2, c3, c4, c5, c6⟩ := seven (HK11.out.1.next hf.only.below0); obtain ⟨d0, d1, d2, d3, d4, d5, d6⟩ := seven (HK11.out.2.1.next hf.only.below0); go_simp
              try rfl
            try simp only [Act.put, List.setIfInBounds_toArray, List.set_cons_zero, List.set_cons_succ])
          refine lex_call (f := 24) (args := ?_) rfl rfl (fun w' hf => ?_) (fun w' hf => ?_) ?_
          rotate_left
          · obtain ⟨d0, d1, d2, d3, d4, d5, d6⟩ := seven (HK11.out.2.1.next hf.only.below0); go_simp
            try rfl
          · obtain ⟨d0, d1, d2, d3, d4, d5, d6⟩ := seven (HK11.out.2.1.next hf.only.below0); exact HOy.out w'
          try simp only [Act.put, List.setIfInBounds_toArray, List.set_cons_zero, List.set_cons_succ]
          repeat (
            refine lex_val (v := ?_) rfl rfl (fun w' hf => ?_) ?_
            rotate_left
            · obtain ⟨c0, c1, c2, c3, c4, c5, c6⟩ := seven (HK11.out.1.next hf.only.below0); obtain ⟨d0, d1, d2, d3, d4, d5, d6⟩ := seven (HK11.out.2.1.next hf.only.below0); go_simp
              try rfl
            try simp only [Act.put, List.setIfInBounds_toArray, List.set_cons_zero, List.set_cons_succ])
          refine lex_call (f := 32) (args := ?_) rfl rfl (fun w' hf => ?_) (fun w' hf => ?_) ?_
          rotate_left
          · go_simp
            try rfl
          · exact HU3.out w' (HT.out.next (HK11.out.2.2.trans (hf.only.below0.mono HK11.out.2.2.size))) (HS.out.next (HK11.out.2.2.trans (hf.only.below0.mono HK11.out.2.2.size)))
          try simp only [Act.put, List.setIfInBounds_toArray, List.set_cons_zero, List.set_cons_succ]
          repeat (
            refine lex_val (v := ?_) rfl rfl (fun w' hf => ?_) ?_
            rotate_left
            · go_simp
              try rfl
            try simp only [Act.put, List.setIfInBounds_toArray, List.set_cons_zero, List.set_cons_succ])
          refine lex_alloc rfl rfl (fun w' => ?_) ?_
          · go_simp
          try simp only [Act.put, List.setIfInBounds_toArray, List.set_cons_zero, List.set_cons_succ]
          refine lex_init rfl rfl rfl (fun bl w' hb hf hB => ⟨_, ?_, repl7 hB (.int .i64 ma) (.int .i64 mb) (.int .i64 mc) (.int .i64 md) (.int .i64 ml) (.int .i64 mr) (.int .i64 ms)⟩) ?_
          · obtain ⟨z0, z1, z2, z3, z4, z5, z6⟩ := seven hB
            obtain ⟨f0, f1, f2, f3, f4, f5, f6⟩ := seven_fr hB
            unfold put7
            go_simp
          try simp only [Act.put]
          repeat (
            refine lex_val (v := ?_) rfl rfl (fun w' hf => ?_) ?_
            rotate_left
            · go_simp
              try rfl
            try simp only [Act.put, List.setIfInBounds_toArray, List.set_cons_zero, List.set_cons_succ])
          refine lex_nil fun w12 he => ?_
          obtain ⟨gm, hgm, hgem, hkm⟩ := he.facts 12
          have HM12 := Lib.hid (show Blk w12 gm 37 #[.int .i64 ma, .int .i64 mb, .int .i64 mc, .int .i64 md, .int .i64 ml, .int .i64 mr, .int .i64 ms] from hkm)
          have HK12 := Lib.hid (HNx.out HK11.out he.only.below0)
          rw [hgm]
          clear he HK11 hkm hgem hgm HU3 HOy
          obtain ⟨c0, c1, c2, c3, c4, c5, c6⟩ := seven HK12.out.1
          obtain ⟨d0, d1, d2, d3, d4, d5, d6⟩ := seven HK12.out.2.1
          go_wp2_with fail
          refine (HU4.out _).mono ?_
          rintro e w13 ⟨rfl, hb13⟩
          have HK13 := Lib.hid (HNx.out HK12.out hb13)
          have HM13 := Lib.hid (HM12.out.next hb13)
          clear hb13 c0 c1 c2 c3 c4 c5 c6 d0 d1 d2 d3 d4 d5 d6 HK12 HM12 HU4
          go_upto_region 24 with fail
          have HQ14 := Lib.hid (Blk.new w13 35 #[.int .i64 ma, .int .i64 mb, .int .i64 mc, .int .i64 md, .int .i64 ml, .int .i64 mr, .int .i64 ms])
          have HM14 := Lib.hid (HM13.out.alloc (.cells #[.int .i64 ma, .int .i64 mb, .int .i64 mc, .int .i64 md, .int .i64 ml, .int .i64 mr, .int .i64 ms] 35))
          have HK14 := Lib.hid (HK13.out.2.2.alloc HK13.out.2.2.size (.cells #[.int .i64 ma, .int .i64 mb, .int .i64 mc, .int .i64 md, .int .i64 ml, .int .i64 mr, .int .i64 ms] 35))
          generalize w13.alloc (.cells #[.int .i64 ma, .int .i64 mb, .int .i64 mc, .int .i64 md, .int .i64 ml, .int .i64 mr, .int .i64 ms] 35) = w14 at *
          generalize w13.heap.size = gw at *
          clear HK13 HM13
          have hok : (mok == mok) = true := by simp
          have hnr : ∀ W, _ := fun W => eql_ref W ma mb mc md ml mr ms
          have hgr : ∀ W p q xs ys, _ := fun W p q xs ys => guard_ref W .eql p q xs ys
          refine wp_region_mix_lit (by kernel_rfl) [(5, .call (.agg #[.int .i64 ma, .int .i64 mb, .int .i64 mc, .int .i64 md, .int .i64 ml, .int .i64 mr, .int .i64 ms]))] (by kernel_rfl) (by kernel_rfl) (by kernel_rfl) (by rfl) (by simp [apartK] <;> omega) (by simp [startK]) (by simp [stabK]) (⟨fun _ => undef, by simp [okK]⟩) (fun β hβ => ?_)
          repeat (
            refine lex_val (v := ?_) rfl rfl (fun w' hf => ?_) ?_
            rotate_left
            · obtain ⟨c0, c1, c2, c3, c4, c5, c6⟩ := seven (HM14.out.next hf.only.below0); obtain ⟨d0, d1, d2, d3, d4, d5, d6⟩ := seven (HQ14.out.next hf.only.below0); go_simp
              try rfl
            try simp only [Act.put, List.setIfInBounds_toArray, List.set_cons_zero, List.set_cons_succ])
          refine lex_call (f := 34) (args := ?_) rfl rfl (fun w' hf => ?_) (fun w' hf => ?_) ?_
          rotate_left
          · obtain ⟨c0, c1, c2, c3, c4, c5, c6⟩ := seven (HM14.out.next hf.only.below0); obtain ⟨d0, d1, d2, d3, d4, d5, d6⟩ := seven (HQ14.out.next hf.only.below0); go_simp
            try rfl
          · obtain ⟨c0, c1, c2, c3, c4, c5, c6⟩ := seven (HM14.out.next hf.only.below0); obtain ⟨d0, d1, d2, d3, d4, d5, d6⟩ := seven (HQ14.out.next hf.only.below0); exact HTm.out w'
          try simp only [Act.put, List.setIfInBounds_toArray, List.set_cons_zero, List.set_cons_succ]
          repeat (
            refine lex_val (v := ?_) rfl rfl (fun w' hf => ?_) ?_
            rotate_left
            · obtain ⟨c0, c1, c2, c3, c4, c5, c6⟩ := seven (HM14.out.next hf.only.below0); obtain ⟨d0, d1, d2, d3, d4, d5, d6⟩ := seven (HQ14.out.next hf.only.below0); go_simp
              try rfl
            try simp only [Act.put, List.setIfInBounds_toArray, List.set_cons_zero, List.set_cons_succ])
          refine lex_nil fun w15 he => ?_
          have HB15 := Lib.hid (HK14.out.trans (he.only.below0.mono HK14.out.size))
          clear he
          go_wp2_with fail
          go_ret
          exact ⟨rfl, HB15.out⟩
        · have g100 : decide ((100 : Int) < (t.size : Int)) = true := by simp; omega
          have g2 : (100 : Int) ≤ (t.size : Int) := by omega
          have g3 : 100 ≤ t.size := by omega
          obtain ⟨⟨m, mok⟩, hm⟩ : ∃ q, q = restP ⟨ya, yb, yc, yd, yl, yr, ys⟩ xl xr sz (t.extract 0 100) := ⟨_, rfl⟩
          have hu : (t.extract 0 100).size ≤ 100000 := by simp; omega
          obtain ⟨ma, mb, mc, md, ml, mr, ms⟩ := m
          have HU3 : Hid (∀ W, Faces W → Blanks W → Calls Tryd.prog 32 #[.agg #[.int .i64 ya, .int .i64 yb, .int .i64 yc, .int .i64 yd, .int .i64 yl, .int .i64 yr, .int .i64 ys], .int .i64 xl, .int .i64 xr, .int .u8 sz, .string (t.extract 0 100)] W fun e w' => e = .returned (.tuple #[.agg #[.int .i64 ma, .int .i64 mb, .int .i64 mc, .int .i64 md, .int .i64 ml, .int .i64 mr, .int .i64 ms], .bool mok]) ∧ Below W.heap.size W w') := Lib.hid (fun W t1 s1 => by have := HR3.out (t.extract 0 100) W t1 s1; rw [← hm] at this; exact this)
          have HU4 : Hid (∀ W, Calls Tryd.prog 33 #[.agg #[.int .i64 ya, .int .i64 yb, .int .i64 yc, .int .i64 yd, .int .i64 yl, .int .i64 yr, .int .i64 ys], .int .i64 xl, .int .i64 xr, .int .u8 sz, .string (t.extract 0 100)] W fun e w' => e = .returned (.tuple #[.agg #[.int .i64 ma, .int .i64 mb, .int .i64 mc, .int .i64 md, .int .i64 ml, .int .i64 mr, .int .i64 ms], .bool mok]) ∧ Below W.heap.size W w') := Lib.hid (fun W => by have := HR4.out (t.extract 0 100) hu W; rw [← hm] at this; exact this)
          have HTm : Hid (∀ W, Calls Tryd.prog 34 #[.agg #[.int .i64 ma, .int .i64 mb, .int .i64 mc, .int .i64 md, .int .i64 ml, .int .i64 mr, .int .i64 ms]] W fun e w' => e = .returned (.agg #[.int .i64 ma, .int .i64 mb, .int .i64 mc, .int .i64 md, .int .i64 ml, .int .i64 mr, .int .i64 ms]) ∧ Below W.heap.size W w') := Lib.hid (fun W => HTl.out ⟨ma, mb, mc, md, ml, mr, ms⟩ W)
          clear hm hu HR3 HR4 HTl h100
          go_upto_region 22 with fail
          clear g100
          refine wp_region_mix_lit (by kernel_rfl) [(1, .call (.agg #[.int .i64 ya, .int .i64 yb, .int .i64 yc, .int .i64 yd, .int .i64 yl, .int .i64 yr, .int .i64 ys])), (8, .call (.tuple #[.agg #[.int .i64 ma, .int .i64 mb, .int .i64 mc, .int .i64 md, .int .i64 ml, .int .i64 mr, .int .i64 ms], .bool mok])), (12, .alloc 13 37 #[.int .i64 0, .int .i64 0, .int .i64 0, .int .i64 0, .int .i64 0, .int .i64 0, .int .i64 0] (fun _ => #[.int .i64 ma, .int .i64 mb, .int .i64 mc, .int .i64 md, .int .i64 ml, .int .i64 mr, .int .i64 ms])), (13, .init 12)] (by kernel_rfl) (by kernel_rfl) (by kernel_rfl) (by rfl) (by simp [apartK] <;> omega) (by simp [startK]) (by simp [stabK]) (⟨fun _ => .pointer (some ⟨wr.heap.size, 0, none⟩), by simp [okK]⟩) (fun β hβ => ?_)
          repeat (
            refine lex_val (v := ?_) rfl rfl (fun w' hf => ?_) ?_
            rotate_left
            · obtain ⟨c0, c1, c2, c3, c4, c5, c6⟩ := seven (HK11.out.1.next hf.only.below0); obtain ⟨d0, d1, d2, d3, d4, d5, d6⟩ := seven (HK11.out.2.1.next hf.only.below0); go_simp
              try rfl
            try simp only [Act.put, List.setIfInBounds_toArray, List.set_cons_zero, List.set_cons_succ])
          refine lex_call (f := 24) (args := ?_) rfl rfl (fun w' hf => ?_) (fun w' hf => ?_) ?_
          rotate_left
          · obtain ⟨d0, d1, d2, d3, d4, d5, d6⟩ := seven (HK11.out.2.1.next hf.only.below0); go_simp
            try rfl
          · obtain ⟨d0, d1, d2, d3, d4, d5, d6⟩ := seven (HK11.out.2.1.next hf.only.below0); exact HOy.out w'
          try simp only [Act.put, List.setIfInBounds_toArray, List.set_cons_zero, List.set_cons_succ]
          repeat (
            refine lex_val (v := ?_) rfl rfl (fun w' hf => ?_) ?_
            rotate_left
            · obtain ⟨c0, c1, c2, c3, c4, c5, c6⟩ := seven (HK11.out.1.next hf.only.below0); obtain ⟨d0, d1, d2, d3, d4, d5, d6⟩ := seven (HK11.out.2.1.next hf.only.below0); go_simp
              try rfl
            try simp only [Act.put, List.setIfInBounds_toArray, List.set_cons_zero, List.set_cons_succ])
          refine lex_call (f := 32) (args := ?_) rfl rfl (fun w' hf => ?_) (fun w' hf => ?_) ?_
          rotate_left
          · go_simp
            try rfl
          · exact HU3.out w' (HT.out.next (HK11.out.2.2.trans (hf.only.below0.mono HK11.out.2.2.size))) (HS.out.next (HK11.out.2.2.trans (hf.only.below0.mono HK11.out.2.2.size)))
          try simp only [Act.put, List.setIfInBounds_toArray, List.set_cons_zero, List.set_cons_succ]
          repeat (
            refine lex_val (v := ?_) rfl rfl (fun w' hf => ?_) ?_
            rotate_left
            · go_simp
              try rfl
            try simp only [Act.put, List.setIfInBounds_toArray, List.set_cons_zero, List.set_cons_succ])
          refine lex_alloc rfl rfl (fun w' => ?_) ?_
          · go_simp
          try simp only [Act.put, List.setIfInBounds_toArray, List.set_cons_zero, List.set_cons_succ]
          refine lex_init rfl rfl rfl (fun bl w' hb hf hB => ⟨_, ?_, repl7 hB (.int .i64 ma) (.int .i64 mb) (.int .i64 mc) (.int .i64 md) (.int .i64 ml) (.int .i64 mr) (.int .i64 ms)⟩) ?_
          · obtain ⟨z0, z1, z2, z3, z4, z5, z6⟩ := seven hB
            obtain ⟨f0, f1, f2, f3, f4, f5, f6⟩ := seven_fr hB
            unfold put7
            go_simp
          try simp only [Act.put]
          repeat (
            refine lex_val (v := ?_) rfl rfl (fun w' hf => ?_) ?_
            rotate_left
            · go_simp
              try rfl
            try simp only [Act.put, List.setIfInBounds_toArray, List.set_cons_zero, List.set_cons_succ])
          refine lex_nil fun w12 he => ?_
          obtain ⟨gm, hgm, hgem, hkm⟩ := he.facts 12
          have HM12 := Lib.hid (show Blk w12 gm 37 #[.int .i64 ma, .int .i64 mb, .int .i64 mc, .int .i64 md, .int .i64 ml, .int .i64 mr, .int .i64 ms] from hkm)
          have HK12 := Lib.hid (HNx.out HK11.out he.only.below0)
          rw [hgm]
          clear he HK11 hkm hgem hgm HU3 HOy
          obtain ⟨c0, c1, c2, c3, c4, c5, c6⟩ := seven HK12.out.1
          obtain ⟨d0, d1, d2, d3, d4, d5, d6⟩ := seven HK12.out.2.1
          go_wp2_with fail
          refine (HU4.out _).mono ?_
          rintro e w13 ⟨rfl, hb13⟩
          have HK13 := Lib.hid (HNx.out HK12.out hb13)
          have HM13 := Lib.hid (HM12.out.next hb13)
          clear hb13 c0 c1 c2 c3 c4 c5 c6 d0 d1 d2 d3 d4 d5 d6 HK12 HM12 HU4
          go_upto_region 24 with fail
          have HQ14 := Lib.hid (Blk.new w13 35 #[.int .i64 ma, .int .i64 mb, .int .i64 mc, .int .i64 md, .int .i64 ml, .int .i64 mr, .int .i64 ms])
          have HM14 := Lib.hid (HM13.out.alloc (.cells #[.int .i64 ma, .int .i64 mb, .int .i64 mc, .int .i64 md, .int .i64 ml, .int .i64 mr, .int .i64 ms] 35))
          have HK14 := Lib.hid (HK13.out.2.2.alloc HK13.out.2.2.size (.cells #[.int .i64 ma, .int .i64 mb, .int .i64 mc, .int .i64 md, .int .i64 ml, .int .i64 mr, .int .i64 ms] 35))
          generalize w13.alloc (.cells #[.int .i64 ma, .int .i64 mb, .int .i64 mc, .int .i64 md, .int .i64 ml, .int .i64 mr, .int .i64 ms] 35) = w14 at *
          generalize w13.heap.size = gw at *
          clear HK13 HM13
          have hok : (mok == mok) = true := by simp
          have hnr : ∀ W, _ := fun W => eql_ref W ma mb mc md ml mr ms
          have hgr : ∀ W p q xs ys, _ := fun W p q xs ys => guard_ref W .eql p q xs ys
          refine wp_region_mix_lit (by kernel_rfl) [(5, .call (.agg #[.int .i64 ma, .int .i64 mb, .int .i64 mc, .int .i64 md, .int .i64 ml, .int .i64 mr, .int .i64 ms]))] (by kernel_rfl) (by kernel_rfl) (by kernel_rfl) (by rfl) (by simp [apartK] <;> omega) (by simp [startK]) (by simp [stabK]) (⟨fun _ => undef, by simp [okK]⟩) (fun β hβ => ?_)
          repeat (
            refine lex_val (v := ?_) rfl rfl (fun w' hf => ?_) ?_
            rotate_left
            · obtain ⟨c0, c1, c2, c3, c4, c5, c6⟩ := seven (HM14.out.next hf.only.below0); obtain ⟨d0, d1, d2, d3, d4, d5, d6⟩ := seven (HQ14.out.next hf.only.below0); go_simp
              try rfl
            try simp only [Act.put, List.setIfInBounds_toArray, List.set_cons_zero, List.set_cons_succ])
          refine lex_call (f := 34) (args := ?_) rfl rfl (fun w' hf => ?_) (fun w' hf => ?_) ?_
          rotate_left
          · obtain ⟨c0, c1, c2, c3, c4, c5, c6⟩ := seven (HM14.out.next hf.only.below0); obtain ⟨d0, d1, d2, d3, d4, d5, d6⟩ := seven (HQ14.out.next hf.only.below0); go_simp
            try rfl
          · obtain ⟨c0, c1, c2, c3, c4, c5, c6⟩ := seven (HM14.out.next hf.only.below0); obtain ⟨d0, d1, d2, d3, d4, d5, d6⟩ := seven (HQ14.out.next hf.only.below0); exact HTm.out w'
          try simp only [Act.put, List.setIfInBounds_toArray, List.set_cons_zero, List.set_cons_succ]
          repeat (
            refine lex_val (v := ?_) rfl rfl (fun w' hf => ?_) ?_
            rotate_left
            · obtain ⟨c0, c1, c2, c3, c4, c5, c6⟩ := seven (HM14.out.next hf.only.below0); obtain ⟨d0, d1, d2, d3, d4, d5, d6⟩ := seven (HQ14.out.next hf.only.below0); go_simp
              try rfl
            try simp only [Act.put, List.setIfInBounds_toArray, List.set_cons_zero, List.set_cons_succ])
          refine lex_nil fun w15 he => ?_
          have HB15 := Lib.hid (HK14.out.trans (he.only.below0.mono HK14.out.size))
          clear he
          go_wp2_with fail
          go_ret
          exact ⟨rfl, HB15.out⟩
      · obtain ⟨hn', rfl⟩ := HG.out hg
        have hn := hn'.symm
        clear hn'
        simp only [Iso.mk.injEq] at hn
        obtain ⟨rfl, rfl, rfl, rfl, rfl, rfl, rfl⟩ := hn
        clear HG HG4
        have HP12 := HP11
        obtain ⟨p0, p1, p2, p3, p4, p5, p6⟩ := seven HP12.out
        obtain ⟨c0, c1, c2, c3, c4, c5, c6⟩ := seven HK11.out.1
        obtain ⟨d0, d1, d2, d3, d4, d5, d6⟩ := seven HK11.out.2.1
        have hna : ∀ W, _ := fun W => neq_arr W xa xb xc xd
        have hga : ∀ W p q xs ys, _ := fun W p q xs ys => guard_arr W .neq p q xs ys
        go_upto_region 20 with fail
        clear p0 p1 p2 p3 p4 p5 p6 c0 c1 c2 c3 c4 c5 c6 d0 d1 d2 d3 d4 d5 d6 hna hga HP12
        clear HP11
        by_cases h100 : t.size ≤ 100
        · have g100 : decide ((100 : Int) < (t.size : Int)) = false := by simp; omega
          obtain ⟨⟨m, mok⟩, hm⟩ : ∃ q, q = restP ⟨ya, yb, yc, yd, yl, yr, ys⟩ xl xr sz t := ⟨_, rfl⟩
          have hu : t.size ≤ 100000 := by omega
          obtain ⟨ma, mb, mc, md, ml, mr, ms⟩ := m
          have HU3 : Hid (∀ W, Faces W → Blanks W → Calls Tryd.prog 32 #[.agg #[.int .i64 ya, .int .i64 yb, .int .i64 yc, .int .i64 yd, .int .i64 yl, .int .i64 yr, .int .i64 ys], .int .i64 xl, .int .i64 xr, .int .u8 sz, .string t] W fun e w' => e = .returned (.tuple #[.agg #[.int .i64 ma, .int .i64 mb, .int .i64 mc, .int .i64 md, .int .i64 ml, .int .i64 mr, .int .i64 ms], .bool mok]) ∧ Below W.heap.size W w') := Lib.hid (fun W t1 s1 => by have := HR3.out t W t1 s1; rw [← hm] at this; exact this)
          have HU4 : Hid (∀ W, Calls Tryd.prog 33 #[.agg #[.int .i64 ya, .int .i64 yb, .int .i64 yc, .int .i64 yd, .int .i64 yl, .int .i64 yr, .int .i64 ys], .int .i64 xl, .int .i64 xr, .int .u8 sz, .string t] W fun e w' => e = .returned (.tuple #[.agg #[.int .i64 ma, .int .i64 mb, .int .i64 mc, .int .i64 md, .int .i64 ml, .int .i64 mr, .int .i64 ms], .bool mok]) ∧ Below W.heap.size W w') := Lib.hid (fun W => by have := HR4.out t hu W; rw [← hm] at this; exact this)
          have HTm : Hid (∀ W, Calls Tryd.prog 34 #[.agg #[.int .i64 ma, .int .i64 mb, .int .i64 mc, .int .i64 md, .int .i64 ml, .int .i64 mr, .int .i64 ms]] W fun e w' => e = .returned (.agg #[.int .i64 ma, .int .i64 mb, .int .i64 mc, .int .i64 md, .int .i64 ml, .int .i64 mr, .int .i64 ms]) ∧ Below W.heap.size W w') := Lib.hid (fun W => HTl.out ⟨ma, mb, mc, md, ml, mr, ms⟩ W)
          clear hm hu HR3 HR4 HTl h100
          go_upto_region 22 with fail
          clear g100
          refine wp_region_mix_lit (by kernel_rfl) [(1, .call (.agg #[.int .i64 ya, .int .i64 yb, .int .i64 yc, .int .i64 yd, .int .i64 yl, .int .i64 yr, .int .i64 ys])), (8, .call (.tuple #[.agg #[.int .i64 ma, .int .i64 mb, .int .i64 mc, .int .i64 md, .int .i64 ml, .int .i64 mr, .int .i64 ms], .bool mok])), (12, .alloc 13 37 #[.int .i64 0, .int .i64 0, .int .i64 0, .int .i64 0, .int .i64 0, .int .i64 0, .int .i64 0] (fun _ => #[.int .i64 ma, .int .i64 mb, .int .i64 mc, .int .i64 md, .int .i64 ml, .int .i64 mr, .int .i64 ms])), (13, .init 12)] (by kernel_rfl) (by kernel_rfl) (by kernel_rfl) (by rfl) (by simp [apartK] <;> omega) (by simp [startK]) (by simp [stabK]) (⟨fun _ => .pointer (some ⟨wr.heap.size, 0, none⟩), by simp [okK]⟩) (fun β hβ => ?_)
          repeat (
            refine lex_val (v := ?_) rfl rfl (fun w' hf => ?_) ?_
            rotate_left
            · obtain ⟨c0, c1, c2, c3, c4, c5, c6⟩ := seven (HK11.out.1.next hf.only.below0); obtain ⟨d0, d1, d2, d3, d4, d5, d6⟩ := seven (HK11.out.2.1.next hf.only.below0); go_simp
              try rfl
            try simp only [Act.put, List.setIfInBounds_toArray, List.set_cons_zero, List.set_cons_succ])
          refine lex_call (f := 24) (args := ?_) rfl rfl (fun w' hf => ?_) (fun w' hf => ?_) ?_
          rotate_left
          · obtain ⟨d0, d1, d2, d3, d4, d5, d6⟩ := seven (HK11.out.2.1.next hf.only.below0); go_simp
            try rfl
          · obtain ⟨d0, d1, d2, d3, d4, d5, d6⟩ := seven (HK11.out.2.1.next hf.only.below0); exact HOy.out w'
          try simp only [Act.put, List.setIfInBounds_toArray, List.set_cons_zero, List.set_cons_succ]
          repeat (
            refine lex_val (v := ?_) rfl rfl (fun w' hf => ?_) ?_
            rotate_left
            · obtain ⟨c0, c1, c2, c3, c4, c5, c6⟩ := seven (HK11.out.1.next hf.only.below0); obtain ⟨d0, d1, d2, d3, d4, d5, d6⟩ := seven (HK11.out.2.1.next hf.only.below0); go_simp
              try rfl
            try simp only [Act.put, List.setIfInBounds_toArray, List.set_cons_zero, List.set_cons_succ])
          refine lex_call (f := 32) (args := ?_) rfl rfl (fun w' hf => ?_) (fun w' hf => ?_) ?_
          rotate_left
          · go_simp
            try rfl
          · exact HU3.out w' (HT.out.next (HK11.out.2.2.trans (hf.only.below0.mono HK11.out.2.2.size))) (HS.out.next (HK11.out.2.2.trans (hf.only.below0.mono HK11.out.2.2.size)))
          try simp only [Act.put, List.setIfInBounds_toArray, List.set_cons_zero, List.set_cons_succ]
          repeat (
            refine lex_val (v := ?_) rfl rfl (fun w' hf => ?_) ?_
            rotate_left
            · go_simp
              try rfl
            try simp only [Act.put, List.setIfInBounds_toArray, List.set_cons_zero, List.set_cons_succ])
          refine lex_alloc rfl rfl (fun w' => ?_) ?_
          · go_simp
          try simp only [Act.put, List.setIfInBounds_toArray, List.set_cons_zero, List.set_cons_succ]
          refine lex_init rfl rfl rfl (fun bl w' hb hf hB => ⟨_, ?_, repl7 hB (.int .i64 ma) (.int .i64 mb) (.int .i64 mc) (.int .i64 md) (.int .i64 ml) (.int .i64 mr) (.int .i64 ms)⟩) ?_
          · obtain ⟨z0, z1, z2, z3, z4, z5, z6⟩ := seven hB
            obtain ⟨f0, f1, f2, f3, f4, f5, f6⟩ := seven_fr hB
            unfold put7
            go_simp
          try simp only [Act.put]
          repeat (
            refine lex_val (v := ?_) rfl rfl (fun w' hf => ?_) ?_
            rotate_left
            · go_simp
              try rfl
            try simp only [Act.put, List.setIfInBounds_toArray, List.set_cons_zero, List.set_cons_succ])
          refine lex_nil fun w12 he => ?_
          obtain ⟨gm, hgm, hgem, hkm⟩ := he.facts 12
          have HM12 := Lib.hid (show Blk w12 gm 37 #[.int .i64 ma, .int .i64 mb, .int .i64 mc, .int .i64 md, .int .i64 ml, .int .i64 mr, .int .i64 ms] from hkm)
          have HK12 := Lib.hid (HNx.out HK11.out he.only.below0)
          rw [hgm]
          clear he HK11 hkm hgem hgm HU3 HOy
          obtain ⟨c0, c1, c2, c3, c4, c5, c6⟩ := seven HK12.out.1
          obtain ⟨d0, d1, d2, d3, d4, d5, d6⟩ := seven HK12.out.2.1
          go_wp2_with fail
          refine (HU4.out _).mono ?_
          rintro e w13 ⟨rfl, hb13⟩
          have HK13 := Lib.hid (HNx.out HK12.out hb13)
          have HM13 := Lib.hid (HM12.out.next hb13)
          clear hb13 c0 c1 c2 c3 c4 c5 c6 d0 d1 d2 d3 d4 d5 d6 HK12 HM12 HU4
          go_upto_region 24 with fail
          have HQ14 := Lib.hid (Blk.new w13 35 #[.int .i64 ma, .int .i64 mb, .int .i64 mc, .int .i64 md, .int .i64 ml, .int .i64 mr, .int .i64 ms])
          have HM14 := Lib.hid (HM13.out.alloc (.cells #[.int .i64 ma, .int .i64 mb, .int .i64 mc, .int .i64 md, .int .i64 ml, .int .i64 mr, .int .i64 ms] 35))
          have HK14 := Lib.hid (HK13.out.2.2.alloc HK13.out.2.2.size (.cells #[.int .i64 ma, .int .i64 mb, .int .i64 mc, .int .i64 md, .int .i64 ml, .int .i64 mr, .int .i64 ms] 35))
          generalize w13.alloc (.cells #[.int .i64 ma, .int .i64 mb, .int .i64 mc, .int .i64 md, .int .i64 ml, .int .i64 mr, .int .i64 ms] 35) = w14 at *
          generalize w13.heap.size = gw at *
          clear HK13 HM13
          have hok : (mok == mok) = true := by simp
          have hnr : ∀ W, _ := fun W => eql_ref W ma mb mc md ml mr ms
          have hgr : ∀ W p q xs ys, _ := fun W p q xs ys => guard_ref W .eql p q xs ys
          refine wp_region_mix_lit (by kernel_rfl) [(5, .call (.agg #[.int .i64 ma, .int .i64 mb, .int .i64 mc, .int .i64 md, .int .i64 ml, .int .i64 mr, .int .i64 ms]))] (by kernel_rfl) (by kernel_rfl) (by kernel_rfl) (by rfl) (by simp [apartK] <;> omega) (by simp [startK]) (by simp [stabK]) (⟨fun _ => undef, by simp [okK]⟩) (fun β hβ => ?_)
          repeat (
            refine lex_val (v := ?_) rfl rfl (fun w' hf => ?_) ?_
            rotate_left
            · obtain ⟨c0, c1, c2, c3, c4, c5, c6⟩ := seven (HM14.out.next hf.only.below0); obtain ⟨d0, d1, d2, d3, d4, d5, d6⟩ := seven (HQ14.out.next hf.only.below0); go_simp
              try rfl
            try simp only [Act.put, List.setIfInBounds_toArray, List.set_cons_zero, List.set_cons_succ])
          refine lex_call (f := 34) (args := ?_) rfl rfl (fun w' hf => ?_) (fun w' hf => ?_) ?_
          rotate_left
          · obtain ⟨c0, c1, c2, c3, c4, c5, c6⟩ := seven (HM14.out.next hf.only.below0); obtain ⟨d0, d1, d2, d3, d4, d5, d6⟩ := seven (HQ14.out.next hf.only.below0); go_simp
            try rfl
          · obtain ⟨c0, c1, c2, c3, c4, c5, c6⟩ := seven (HM14.out.next hf.only.below0); obtain ⟨d0, d1, d2, d3, d4, d5, d6⟩ := seven (HQ14.out.next hf.only.below0); exact HTm.out w'
          try simp only [Act.put, List.setIfInBounds_toArray, List.set_cons_zero, List.set_cons_succ]
          repeat (
            refine lex_val (v := ?_) rfl rfl (fun w' hf => ?_) ?_
            rotate_left
            · obtain ⟨c0, c1, c2, c3, c4, c5, c6⟩ := seven (HM14.out.next hf.only.below0); obtain ⟨d0, d1, d2, d3, d4, d5, d6⟩ := seven (HQ14.out.next hf.only.below0); go_simp
              try rfl
            try simp only [Act.put, List.setIfInBounds_toArray, List.set_cons_zero, List.set_cons_succ])
          refine lex_nil fun w15 he => ?_
          have HB15 := Lib.hid (HK14.out.trans (he.only.below0.mono HK14.out.size))
          clear he
          go_wp2_with fail
          go_ret
          exact ⟨rfl, HB15.out⟩
        · have g100 : decide ((100 : Int) < (t.size : Int)) = true := by simp; omega
          have g2 : (100 : Int) ≤ (t.size : Int) := by omega
          have g3 : 100 ≤ t.size := by omega
          obtain ⟨⟨m, mok⟩, hm⟩ : ∃ q, q = restP ⟨ya, yb, yc, yd, yl, yr, ys⟩ xl xr sz (t.extract 0 100) := ⟨_, rfl⟩
          have hu : (t.extract 0 100).size ≤ 100000 := by simp; omega
          obtain ⟨ma, mb, mc, md, ml, mr, ms⟩ := m
          have HU3 : Hid (∀ W, Faces W → Blanks W → Calls Tryd.prog 32 #[.agg #[.int .i64 ya, .int .i64 yb, .int .i64 yc, .int .i64 yd, .int .i64 yl, .int .i64 yr, .int .i64 ys], .int .i64 xl, .int .i64 xr, .int .u8 sz, .string (t.extract 0 100)] W fun e w' => e = .returned (.tuple #[.agg #[.int .i64 ma, .int .i64 mb, .int .i64 mc, .int .i64 md, .int .i64 ml, .int .i64 mr, .int .i64 ms], .bool mok]) ∧ Below W.heap.size W w') := Lib.hid (fun W t1 s1 => by have := HR3.out (t.extract 0 100) W t1 s1; rw [← hm] at this; exact this)
          have HU4 : Hid (∀ W, Calls Tryd.prog 33 #[.agg #[.int .i64 ya, .int .i64 yb, .int .i64 yc, .int .i64 yd, .int .i64 yl, .int .i64 yr, .int .i64 ys], .int .i64 xl, .int .i64 xr, .int .u8 sz, .string (t.extract 0 100)] W fun e w' => e = .returned (.tuple #[.agg #[.int .i64 ma, .int .i64 mb, .int .i64 mc, .int .i64 md, .int .i64 ml, .int .i64 mr, .int .i64 ms], .bool mok]) ∧ Below W.heap.size W w') := Lib.hid (fun W => by have := HR4.out (t.extract 0 100) hu W; rw [← hm] at this; exact this)
          have HTm : Hid (∀ W, Calls Tryd.prog 34 #[.agg #[.int .i64 ma, .int .i64 mb, .int .i64 mc, .int .i64 md, .int .i64 ml, .int .i64 mr, .int .i64 ms]] W fun e w' => e = .returned (.agg #[.int .i64 ma, .int .i64 mb, .int .i64 mc, .int .i64 md, .int .i64 ml, .int .i64 mr, .int .i64 ms]) ∧ Below W.heap.size W w') := Lib.hid (fun W => HTl.out ⟨ma, mb, mc, md, ml, mr, ms⟩ W)
          clear hm hu HR3 HR4 HTl h100
          go_upto_region 22 with fail
          clear g100
          refine wp_region_mix_lit (by kernel_rfl) [(1, .call (.agg #[.int .i64 ya, .int .i64 yb, .int .i64 yc, .int .i64 yd, .int .i64 yl, .int .i64 yr, .int .i64 ys])), (8, .call (.tuple #[.agg #[.int .i64 ma, .int .i64 mb, .int .i64 mc, .int .i64 md, .int .i64 ml, .int .i64 mr, .int .i64 ms], .bool mok])), (12, .alloc 13 37 #[.int .i64 0, .int .i64 0, .int .i64 0, .int .i64 0, .int .i64 0, .int .i64 0, .int .i64 0] (fun _ => #[.int .i64 ma, .int .i64 mb, .int .i64 mc, .int .i64 md, .int .i64 ml, .int .i64 mr, .int .i64 ms])), (13, .init 12)] (by kernel_rfl) (by kernel_rfl) (by kernel_rfl) (by rfl) (by simp [apartK] <;> omega) (by simp [startK]) (by simp [stabK]) (⟨fun _ => .pointer (some ⟨wr.heap.size, 0, none⟩), by simp [okK]⟩) (fun β hβ => ?_)
          repeat (
            refine lex_val (v := ?_) rfl rfl (fun w' hf => ?_) ?_
            rotate_left
            · obtain ⟨c0, c1, c2, c3, c4, c5, c6⟩ := seven (HK11.out.1.next hf.only.below0); obtain ⟨d0, d1, d2, d3, d4, d5, d6⟩ := seven (HK11.out.2.1.next hf.only.below0); go_simp
              try rfl
            try simp only [Act.put, List.setIfInBounds_toArray, List.set_cons_zero, List.set_cons_succ])
          refine lex_call (f := 24) (args := ?_) rfl rfl (fun w' hf => ?_) (fun w' hf => ?_) ?_
          rotate_left
          · obtain ⟨d0, d1, d2, d3, d4, d5, d6⟩ := seven (HK11.out.2.1.next hf.only.below0); go_simp
            try rfl
          · obtain ⟨d0, d1, d2, d3, d4, d5, d6⟩ := seven (HK11.out.2.1.next hf.only.below0); exact HOy.out w'
          try simp only [Act.put, List.setIfInBounds_toArray, List.set_cons_zero, List.set_cons_succ]
          repeat (
            refine lex_val (v := ?_) rfl rfl (fun w' hf => ?_) ?_
            rotate_left
            · obtain ⟨c0, c1, c2, c3, c4, c5, c6⟩ := seven (HK11.out.1.next hf.only.below0); obtain ⟨d0, d1, d2, d3, d4, d5, d6⟩ := seven (HK11.out.2.1.next hf.only.below0); go_simp
              try rfl
            try simp only [Act.put, List.setIfInBounds_toArray, List.set_cons_zero, List.set_cons_succ])
          refine lex_call (f := 32) (args := ?_) rfl rfl (fun w' hf => ?_) (fun w' hf => ?_) ?_
          rotate_left
          · go_simp
            try rfl
          · exact HU3.out w' (HT.out.next (HK11.out.2.2.trans (hf.only.below0.mono HK11.out.2.2.size))) (HS.out.next (HK11.out.2.2.trans (hf.only.below0.mono HK11.out.2.2.size)))
          try simp only [Act.put, List.setIfInBounds_toArray, List.set_cons_zero, List.set_cons_succ]
          repeat (
            refine lex_val (v := ?_) rfl rfl (fun w' hf => ?_) ?_
            rotate_left
            · go_simp
              try rfl
            try simp only [Act.put, List.setIfInBounds_toArray, List.set_cons_zero, List.set_cons_succ])
          refine lex_alloc rfl rfl (fun w' => ?_) ?_
          · go_simp
          try simp only [Act.put, List.setIfInBounds_toArray, List.set_cons_zero, List.set_cons_succ]
          refine lex_init rfl rfl rfl (fun bl w' hb hf hB => ⟨_, ?_, repl7 hB (.int .i64 ma) (.int .i64 mb) (.int .i64 mc) (.int .i64 md) (.int .i64 ml) (.int .i64 mr) (.int .i64 ms)⟩) ?_
          · obtain ⟨z0, z1, z2, z3, z4, z5, z6⟩ := seven hB
            obtain ⟨f0, f1, f2, f3, f4, f5, f6⟩ := seven_fr hB
            unfold put7
            go_simp
          try simp only [Act.put]
          repeat (
            refine lex_val (v := ?_) rfl rfl (fun w' hf => ?_) ?_
            rotate_left
            · go_simp
              try rfl
            try simp only [Act.put, List.setIfInBounds_toArray, List.set_cons_zero, List.set_cons_succ])
          refine lex_nil fun w12 he => ?_
          obtain ⟨gm, hgm, hgem, hkm⟩ := he.facts 12
          have HM12 := Lib.hid (show Blk w12 gm 37 #[.int .i64 ma, .int .i64 mb, .int .i64 mc, .int .i64 md, .int .i64 ml, .int .i64 mr, .int .i64 ms] from hkm)
          have HK12 := Lib.hid (HNx.out HK11.out he.only.below0)
          rw [hgm]
          clear he HK11 hkm hgem hgm HU3 HOy
          obtain ⟨c0, c1, c2, c3, c4, c5, c6⟩ := seven HK12.out.1
          obtain ⟨d0, d1, d2, d3, d4, d5, d6⟩ := seven HK12.out.2.1
          go_wp2_with fail
          refine (HU4.out _).mono ?_
          rintro e w13 ⟨rfl, hb13⟩
          have HK13 := Lib.hid (HNx.out HK12.out hb13)
          have HM13 := Lib.hid (HM12.out.next hb13)
          clear hb13 c0 c1 c2 c3 c4 c5 c6 d0 d1 d2 d3 d4 d5 d6 HK12 HM12 HU4
          go_upto_region 24 with fail
          have HQ14 := Lib.hid (Blk.new w13 35 #[.int .i64 ma, .int .i64 mb, .int .i64 mc, .int .i64 md, .int .i64 ml, .int .i64 mr, .int .i64 ms])
          have HM14 := Lib.hid (HM13.out.alloc (.cells #[.int .i64 ma, .int .i64 mb, .int .i64 mc, .int .i64 md, .int .i64 ml, .int .i64 mr, .int .i64 ms] 35))
          have HK14 := Lib.hid (HK13.out.2.2.alloc HK13.out.2.2.size (.cells #[.int .i64 ma, .int .i64 mb, .int .i64 mc, .int .i64 md, .int .i64 ml, .int .i64 mr, .int .i64 ms] 35))
          generalize w13.alloc (.cells #[.int .i64 ma, .int .i64 mb, .int .i64 mc, .int .i64 md, .int .i64 ml, .int .i64 mr, .int .i64 ms] 35) = w14 at *
          generalize w13.heap.size = gw at *
          clear HK13 HM13
          have hok : (mok == mok) = true := by simp
          have hnr : ∀ W, _ := fun W => eql_ref W ma mb mc md ml mr ms
          have hgr : ∀ W p q xs ys, _ := fun W p q xs ys => guard_ref W .eql p q xs ys
          refine wp_region_mix_lit (by kernel_rfl) [(5, .call (.agg #[.int .i64 ma, .int .i64 mb, .int .i64 mc, .int .i64 md, .int .i64 ml, .int .i64 mr, .int .i64 ms]))] (by kernel_rfl) (by kernel_rfl) (by kernel_rfl) (by rfl) (by simp [apartK] <;> omega) (by simp [startK]) (by simp [stabK]) (⟨fun _ => undef, by simp [okK]⟩) (fun β hβ => ?_)
          repeat (
            refine lex_val (v := ?_) rfl rfl (fun w' hf => ?_) ?_
            rotate_left
            · obtain ⟨c0, c1, c2, c3, c4, c5, c6⟩ := seven (HM14.out.next hf.only.below0); obtain ⟨d0, d1, d2, d3, d4, d5, d6⟩ := seven (HQ14.out.next hf.only.below0); go_simp
              try rfl
            try simp only [Act.put, List.setIfInBounds_toArray, List.set_cons_zero, List.set_cons_succ])
          refine lex_call (f := 34) (args := ?_) rfl rfl (fun w' hf => ?_) (fun w' hf => ?_) ?_
          rotate_left
          · obtain ⟨c0, c1, c2, c3, c4, c5, c6⟩ := seven (HM14.out.next hf.only.below0); obtain ⟨d0, d1, d2, d3, d4, d5, d6⟩ := seven (HQ14.out.next hf.only.below0); go_simp
            try rfl
          · obtain ⟨c0, c1, c2, c3, c4, c5, c6⟩ := seven (HM14.out.next hf.only.below0); obtain ⟨d0, d1, d2, d3, d4, d5, d6⟩ := seven (HQ14.out.next hf.only.below0); exact HTm.out w'
          try simp only [Act.put, List.setIfInBounds_toArray, List.set_cons_zero, List.set_cons_succ]
          repeat (
            refine lex_val (v := ?_) rfl rfl (fun w' hf => ?_) ?_
            rotate_left
            · obtain ⟨c0, c1, c2, c3, c4, c5, c6⟩ := seven (HM14.out.next hf.only.below0); obtain ⟨d0, d1, d2, d3, d4, d5, d6⟩ := seven (HQ14.out.next hf.only.below0); go_simp
              try rfl
            try simp only [Act.put, List.setIfInBounds_toArray, List.set_cons_zero, List.set_cons_succ])
          refine lex_nil fun w15 he => ?_
          have HB15 := Lib.hid (HK14.out.trans (he.only.below0.mono HK14.out.size))
          clear he
          go_wp2_with fail
          go_ret
          exact ⟨rfl, HB15.out⟩

set_option maxRecDepth 100000 in
/-- What the walk gives, for every argument and every world that holds the table. -/
theorem contract (H : Type) (enc : TypeId × Value → H) (W : World) (base : Nat) (args : Array Value) (ds gs : List (DataW H)) (before : List MemPlace)
    (hval : ∀ (j : Nat) t v, Tryd.f9.params[j]? = some t → args[j]? = some v → Value.okWide Tryd.prog W .any base t v)
    (hW : DataW.Whole enc Tryd.prog Tryd.f9.params.toList Rows.isoReportsSpec.vars false W args.toList ds gs before) (hL : laidMetH Tryd.prog Rows.isoReportsRow.laid W)
    (hreach : (DataW.weightsEach Tryd.prog (Tryd.f9.params.toList ++ []) (ds ++ gs)).all (· ≤ reachBytes) = true) :
    Calls Tryd.prog 9 args W fun e W' => ∃ v, e = .returned v ∧ Rows.isoReportsSpec.post enc Tryd.prog Tryd.f9 false true false false W args v W' := by
  have hW' := hW
  have ht := facesB hL
  have hs := blanksB hL
  have hlts : ∀ x ∈ before, x.block < W.heap.size := fun x hx => hW'.lt x hx
  obtain ⟨p, q, hA0, hV, rfl, hfz, hnd⟩ := hW
  have hA : DataW.TrodAll enc Tryd.prog W 0 (fun _ => true) true Tryd.f9.params.toList args.toList ds p := hA0
  rw [Tryd.params9] at hA hval hreach
  obtain ⟨v0, vs0, d0, ds0, pp0, qq0, hargs, rfl, rfl, h0, rr0⟩ := trodAll_cons hA
  obtain ⟨v1, vs1, d1, ds1, pp1, qq1, rfl, rfl, rfl, h1, rr1⟩ := trodAll_cons rr0
  obtain ⟨v2, vs2, d2, ds2, pp2, qq2, rfl, rfl, rfl, h2, rr2⟩ := trodAll_cons rr1
  obtain ⟨rfl, rfl, rfl⟩ := trodAll_nil rr2
  obtain rfl : args = #[v0, v1, v2] := by cases args; simp_all
  obtain ⟨rfl, rfl⟩ := trodVars_none hV
  obtain ⟨a0, b0, c0, e0, l0, r0, s0, rfl⟩ := iso_in (hval 0 35 v0 rfl rfl) h0
  obtain ⟨a1, b1, c1, e1, l1, r1, s1, rfl⟩ := iso_in (hval 1 35 v1 rfl rfl) h1
  obtain ⟨s2, rfl, rfl, rfl, hs2⟩ := open_string Tryd.underlying9 (hval 2 9 v2 rfl rfl) h2
  clear hA0
  refine (walk a0 b0 c0 e0 l0 r0 s0 a1 b1 c1 e1 l1 r1 s1 s2 hs2 W ht hs).mono fun e W' ⟨he, hb⟩ => ?_
  subst he
  exact ⟨_, rfl, post_law laidOut (by kernel_rfl) (by kernel_rfl) rfl hW' rfl hb⟩

set_option maxRecDepth 100000 in
theorem laid_met (os : Os) : laidMet Tryd.prog Rows.isoReportsRow.laid ((laidWorldB os).forCall (fun _ _ => 0) ⟨#[], #[Value.agg #[.int .i64 0, .int .i64 0, .int .i64 0, .int .i64 0, .int .i64 0, .int .i64 0, .int .i64 0], Value.agg #[.int .i64 0, .int .i64 0, .int .i64 0, .int .i64 0, .int .i64 0, .int .i64 0, .int .i64 0], Value.string ⟨#[]⟩], []⟩).memory :=
  laid_metB os _
set_option maxRecDepth 100000 in
theorem reads (os : Os) {H : Type} (enc : TypeId × Value → H) : ∃ places, DataW.whole enc Tryd.prog ((laidWorldB os).forCall (fun _ _ => 0) ⟨#[], #[Value.agg #[.int .i64 0, .int .i64 0, .int .i64 0, .int .i64 0, .int .i64 0, .int .i64 0, .int .i64 0], Value.agg #[.int .i64 0, .int .i64 0, .int .i64 0, .int .i64 0, .int .i64 0, .int .i64 0, .int .i64 0], Value.string ⟨#[]⟩], []⟩).memory Tryd.f9.params.toList Rows.isoReportsSpec.vars false (#[Value.agg #[.int .i64 0, .int .i64 0, .int .i64 0, .int .i64 0, .int .i64 0, .int .i64 0, .int .i64 0], Value.agg #[.int .i64 0, .int .i64 0, .int .i64 0, .int .i64 0, .int .i64 0, .int .i64 0, .int .i64 0], Value.string ⟨#[]⟩] : Array Value).toList 8 = some ([.agg [.agg [.lit (.int .i64 0), .lit (.int .i64 0), .lit (.int .i64 0), .lit (.int .i64 0)], .lit (.int .i64 0), .lit (.int .i64 0), .lit (.int .i64 0)], .agg [.agg [.lit (.int .i64 0), .lit (.int .i64 0), .lit (.int .i64 0), .lit (.int .i64 0)], .lit (.int .i64 0), .lit (.int .i64 0), .lit (.int .i64 0)], .lit (.string [])], [], places) :=
  ⟨[], by kernel_rfl⟩

set_option maxRecDepth 100000 in
theorem lifted (os : Os) (started : os.Started) (H : Type) (enc : TypeId × Value → H) (F : Stop.Interp) :
    ReturnsInHanded {} Tryd.checked os 9 .any ((OpenSpec.ofChange Rows.isoReportsSpec).preRow enc Tryd.prog Tryd.f9 Rows.isoReportsRow.domain false Rows.isoReportsRow.laid) (((OpenSpec.ofChange Rows.isoReportsSpec).at F).post enc Tryd.prog Tryd.f9 false true false false) := by
  obtain ⟨places, hx⟩ := reads os enc
  refine returnsInHanded_of_row (C := Tryd.checked) (s := OpenSpec.ofChange Rows.isoReportsSpec) own started (by kernel_rfl) Tryd.func9
    (witness_row_atRef (enc := enc) (C := Tryd.checked) false (laidWorldB os) #[Value.agg #[.int .i64 0, .int .i64 0, .int .i64 0, .int .i64 0, .int .i64 0, .int .i64 0, .int .i64 0], Value.agg #[.int .i64 0, .int .i64 0, .int .i64 0, .int .i64 0, .int .i64 0, .int .i64 0, .int .i64 0], Value.string ⟨#[]⟩] rfl (by kernel_rfl) (by kernel_rfl) (by kernel_rfl)
      (OpenSpec.preRow_of_cond 8 hx (by kernel_rfl) (fun k hk => by cases hk) (by kernel_rfl) (laid_met os))) ?_
  intro W base args ds gs before hval hW _ _ hreach hL _ _
  exact contract H enc W base args ds gs before hval hW hL hreach

theorem said : Rows.IsoReportsSaid :=
  OpenClaim.holds_of_cond 9 Tryd.f9 rfl rfl rfl rfl rfl rfl rfl ⟨rfl, rfl, rfl, rfl, rfl⟩ rfl rfl rfl rfl rfl (by kernel_rfl) Tryd.func9 (by kernel_rfl)
    (of_decide_eq_true (by kernel_rfl)) (by unfold Func.isWrapper; first | (rw [if_pos (by decide +kernel)]; kernel_rfl) | (rw [if_neg (by decide +kernel)]; exact ⟨rfl, rfl⟩))
    (fun os started H enc _ F => by rw [OpenClaim.pre_eq_preRow]; exact lifted os started H enc F)

theorem plain (f : FuncId) (fn : Func) (hf : Tryd.pinned.checked.prog.funcNamed "phosphor/phosphorlaw10.IsoReports" = some f) (hfn : Tryd.pinned.checked.prog.funcs[f]? = some fn) :
    false = Tryd.pinned.checked.prog.looks [] ∧ ∀ (j : Nat) t, fn.params[j]? = some t → Tryd.pinned.checked.prog.wantsStandIn t = false := by
  obtain rfl : f = 9 := Option.some.inj ((show Tryd.prog.funcNamed "phosphor/phosphorlaw10.IsoReports" = some 9 by kernel_rfl).symm.trans hf) |>.symm
  obtain rfl : fn = Tryd.f9 := (Option.some.inj (Tryd.func9.symm.trans hfn)).symm
  refine ⟨by kernel_rfl, fun j t ht => ?_⟩
  rw [Tryd.params9] at ht
  have hm : t ∈ [35, 35, 9] := by simpa using Array.mem_of_getElem? ht
  have hall : ([35, 35, 9].all fun u => !Tryd.prog.wantsStandIn u) = true := by kernel_rfl
  exact (show Tryd.prog.wantsStandIn t = false by simpa using List.all_eq_true.1 hall t hm)

/-- The card. -/
theorem card : Rows.IsoReportsCardSaid :=
  Claim7.holds_tied_plain_at .later [] _ _ _ _ said (fun _ h => by cases h) (by kernel_rfl) (fun _ h => by cases h) isoReports_row_tie rfl ⟨rfl, rfl⟩ (by kernel_rfl) rfl plain (by kernel_rfl)
#print axioms card
end Go.Proofs.YtandfpghjbbalaaDoor.isoReports

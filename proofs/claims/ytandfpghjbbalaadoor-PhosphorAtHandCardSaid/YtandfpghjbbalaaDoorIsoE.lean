/-
  States of sets: what is fixed of them all; the document's state as the program's.
-/
import Derived.Test.YtandfpghjbbalaaDoorIsoD
import Derived.Test.YtandfpghjbbalaaDoorChsP
namespace Go.Proofs.YtandfpghjbbalaaDoor
open Go Go.RowKit

set_option maxHeartbeats 2000000 in
theorem lawOwn_any (x : Iso) (w : World) : Calls Tryd.prog 24 #[x.val] w fun e w' => e = .returned x.val ∧ Below w.heap.size w w' := by
  obtain ⟨a, b, c, d, l, r, s⟩ := x
  unfold Iso.val Iso.cs
  go_enter Tryd.func24, Tryd.ntmps24
  go_wp2_with fail
  exact bodyPost_ret (v := .agg #[.int .i64 a, .int .i64 b, .int .i64 c, .int .i64 d, .int .i64 l, .int .i64 r, .int .i64 s]) (by simp [results, Tryd.results24, go_sem]) rfl ⟨rfl, ((Below.refl _ _).alloc (Nat.le_refl _) _).alloc (by simp) _⟩
def zeroT : ByteArray := ⟨#[48]⟩
theorem found_zero : fndP (metP false zeroT) = 2 := by
  rw [met_eq]
  kernel_rfl
theorem des_zero (x : Iso) (g : Int) : desP x g false zeroT = if inB 0 g = true then (x.put g 2, true) else (x, false) := by
  unfold desP
  rw [found_zero]
  by_cases h : inB 0 g = true
  · rw [if_pos ⟨by decide, h, by simp⟩, if_pos h]; rfl
  · rw [if_neg (fun h2 => h h2.2.1), if_neg h]
theorem rpt_new : idtP newI 4 = ⟨#[66, 66, 37, 53, 37, 53]⟩ := by kernel_rfl
theorem rpt_siz : sizP newI 4 = 64 := by kernel_rfl
set_option maxRecDepth 100000 in
set_option maxHeartbeats 4000000 in
theorem isoAwake_any (w : World) (ht : Faces w) (hs : Blanks w) : Calls Tryd.prog 23 #[] w fun e w' => e = .returned (.bool true) ∧ Below w.heap.size w w' := by
  have HT := Lib.hid ht; have HS := Lib.hid hs
  clear ht hs
  have HN : Hid (∀ W, Calls Tryd.prog 38 #[] W fun e w' => e = .returned (.agg #[.int .i64 1, .int .i64 1, .int .i64 4, .int .i64 4, .int .i64 0, .int .i64 2, .int .i64 0]) ∧ Below W.heap.size W w') := Lib.hid (fun W => isoNew_any W)
  have HD : Hid (∀ W, Faces W → Blanks W → Calls Tryd.prog 37 #[.agg #[.int .i64 1, .int .i64 1, .int .i64 4, .int .i64 4, .int .i64 0, .int .i64 2, .int .i64 0], .int .i64 1, .bool false, .string ⟨#[48]⟩] W fun e w' => e = .returned (.tuple #[.agg #[.int .i64 1, .int .i64 2, .int .i64 4, .int .i64 4, .int .i64 0, .int .i64 2, .int .i64 0], .bool true]) ∧ Below W.heap.size W w') := Lib.hid (fun W t s => by
    have := designate_any newI 1 false zeroT W t s
    rw [des_zero, if_pos (by decide)] at this
    exact this)
  have HL : Hid (∀ W, Calls Tryd.prog 35 #[.agg #[.int .i64 1, .int .i64 2, .int .i64 4, .int .i64 4, .int .i64 0, .int .i64 2, .int .i64 0], .int .i64 1] W fun e w' => e = .returned (.agg #[.int .i64 1, .int .i64 2, .int .i64 4, .int .i64 4, .int .i64 1, .int .i64 2, .int .i64 0]) ∧ Below W.heap.size W w') := Lib.hid (fun W => isoLeft_any ⟨1, 2, 4, 4, 0, 2, 0⟩ 1 W)
  have HM : Hid (∀ W, Faces W → Calls Tryd.prog 26 #[.agg #[.int .i64 1, .int .i64 2, .int .i64 4, .int .i64 4, .int .i64 1, .int .i64 2, .int .i64 0], .int .u8 113] W fun e w' => e = .returned (.tuple #[.int .i32 9472, .agg #[.int .i64 1, .int .i64 2, .int .i64 4, .int .i64 4, .int .i64 1, .int .i64 2, .int .i64 0]]) ∧ Below W.heap.size W w') := Lib.hid (fun W t => by
    have := map_any ⟨1, 2, 4, 4, 1, 2, 0⟩ 113 (by omega) W t
    rw [show mapV (mapP ⟨1, 2, 4, 4, 1, 2, 0⟩ 113) = .tuple #[.int .i32 9472, .agg #[.int .i64 1, .int .i64 2, .int .i64 4, .int .i64 4, .int .i64 1, .int .i64 2, .int .i64 0]] from by kernel_rfl] at this
    exact this)
  have HR : Hid (∀ W, Faces W → Calls Tryd.prog 29 #[.agg #[.int .i64 1, .int .i64 1, .int .i64 4, .int .i64 4, .int .i64 0, .int .i64 2, .int .i64 0]] W fun e w' => e = .returned (.tuple #[.int .i64 0, .int .i64 2, .int .u8 64, .string ⟨#[66, 66, 37, 53, 37, 53]⟩]) ∧ Below W.heap.size W w') := Lib.hid (fun W t => by
    have := report_any newI W t
    unfold rptV at this
    rw [rpt_new, rpt_siz] at this
    exact this)
  go_enter Tryd.func23, Tryd.ntmps23
  go_wp2_with fail
  refine (HN.out _).mono ?_
  rintro e w1 ⟨rfl, hb1⟩
  have HT1 := Lib.hid (HT.out.next hb1); have HS1 := Lib.hid (HS.out.next hb1); have HB1 := Lib.hid hb1
  clear hb1
  go_wp2_with fail
  refine (HD.out _ HT1.out HS1.out).mono ?_
  rintro e w2 ⟨rfl, hb2⟩
  have HT2 := Lib.hid (HT1.out.next hb2); have HB2 := Lib.hid (HB1.out.trans (hb2.mono HB1.out.size))
  have HA := Lib.hid (fun o => (Below.refl w2.heap.size w2).alloc (Nat.le_refl _) o)
  clear hb2
  go_wp2_with fail
  refine (HL.out _).mono ?_
  rintro e w3 ⟨rfl, hb3⟩
  have HB3 := Lib.hid ((HB2.out.trans ((HA.out _).mono HB2.out.size)).trans (hb3.mono (HB2.out.trans ((HA.out _).mono HB2.out.size)).size))
  have HT3 := Lib.hid (HT.out.below HT.out.1 HB3.out)
  clear hb3
  go_wp2_with fail
  refine (HM.out _ HT3.out).mono ?_
  rintro e w4 ⟨rfl, hb4⟩
  have HB4 := Lib.hid (HB3.out.trans (hb4.mono HB3.out.size))
  have HA4 := Lib.hid (fun o => HB4.out.alloc HB4.out.size o)
  clear hb4
  go_wp2_with fail
  refine (HN.out _).mono ?_
  rintro e w5 ⟨rfl, hb5⟩
  have HB5 := Lib.hid ((HA4.out _).trans (hb5.mono (HA4.out _).size))
  have HT5 := Lib.hid (HT.out.below HT.out.1 HB5.out)
  clear hb5
  go_wp2_with fail
  refine (HR.out _ HT5.out).mono ?_
  rintro e w6 ⟨rfl, hb6⟩
  have HB6 := Lib.hid (HB5.out.trans (hb6.mono HB5.out.size))
  clear hb6
  go_wp2_with fail
  go_ret
  exact ⟨rfl, HB6.out⟩
end Go.Proofs.YtandfpghjbbalaaDoor

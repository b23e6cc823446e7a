/-
  LineEach holds, whatever the input: the card of the statement, with the table of parts tied to the program's text.
-/
import Derived.Test.YtflnjlcdpmmjlaaDoorCards
import Derived.Test.YtflnjlcdpmmjlaaDoorTie
import Derived.Test.YtflnjlcdpmmjlaaDoorFrame
import Derived.Test.YtflnjlcdpmmjlaaDoorFrameB
import Derived.Test.YtflnjlcdpmmjlaaDoorFrameC
import Derived.Test.YtflnjlcdpmmjlaaDoorEachU
import Derived.Test.YtflnjlcdpmmjlaaDoorFrameL
namespace Go.Proofs.YtflnjlcdpmmjlaaDoor.lineEach
open Go.ChangeShapes Go.WideShapes Go.ChangeAt Go.RowKit
open Go.ChangeMaps (open_string)

set_option maxRecDepth 100000 in
set_option maxHeartbeats 32000000 in
theorem walk (A0 : Option Addr) (c0 : Nat) (l : List Cl) (size : Int) (hl : l.length ≤ maxLen) (hc0 : l.length ≤ c0) (ok0 : OkCells l) (f t q : Int) (x : Cl) (okx : x.ok) (w : World) (ht : Tab w) (hr : RCells w A0 l) :
    Calls Tryd.prog 3 #[lineV A0 l.length c0 size, .agg #[.int .i64 f, .int .i64 t, .int .i64 q], x.val] w fun e w' => e = .returned (.bool true) ∧ Below w.heap.size w w' := by
  obtain ⟨xg, xr, xk⟩ := x
  have HAw := Lib.hid (fun W => awake_any W)
  have HOwn0 := Lib.hid (fun W h => lawOwn_any A0 c0 l size hl hc0 W h)
  have hm : (l.take 300).length ≤ 300 := by rw [List.length_take]; omega
  have HOwn1 := Lib.hid (fun A c hc W h => lawOwn_any A c (l.take 300) size (by unfold maxLen; omega) hc W h)
  have htt : (l.take 300).take 300 = l.take 300 := List.take_of_length_le hm
  rw [htt] at HOwn1
  have HR := Lib.hid hr; have HT := Lib.hid ht
  have hok : OkCells (l.take 300) := fun y hy => ok0 y (List.mem_of_mem_take hy)
  clear hr htt ht ok0
  unfold lineV at *
  unfold Cl.val
  generalize l.length = n0 at *
  generalize l.take 300 = L at *
  have hxr : 0 ≤ xr ∧ xr ≤ 255 := okx.2
  have HX := Lib.hid hxr; have HOk := Lib.hid hok; have HM := Lib.hid hm
  clear okx hok hxr
  have HK := Lib.hid (KE.start w #[.slice A0 n0 c0, .int .i64 size] #[.int .i64 f, .int .i64 t, .int .i64 q] #[.int .i32 xg, .int .u8 xr, .bool xk])
  go_enter Tryd.func3, Tryd.ntmps3
  go_wp2_with fail
  refine (HAw.out _).mono ?_
  rintro e w1 ⟨rfl, hb1⟩
  have HK1 := Lib.hid (KE.next HK.out hb1)
  clear hb1
  obtain ⟨⟨a0, a1⟩, ⟨b0, b1, b2⟩, d0, d1, d2⟩ := KE.all HK1.out
  go_wp2_with fail
  refine (HOwn0.out _ (HR.out.next HK1.out.2.2.2)).mono ?_
  rintro e w2 ⟨A, c, rfl, hown, hb2⟩
  have HK2 := Lib.hid (KE.store1 (KE.next HK1.out hb2) (.slice A L.length c) (.int .i64 size))
  have hcap := ocells_capX hown
  have HR2 := Lib.hid (OCells.reads (OCells.far (OCells.far hown (g := w.heap.size) (by have := HK1.out.2.2.2.size; omega) 0 (.slice A L.length c)) (g := w.heap.size) (by have := HK1.out.2.2.2.size; omega) 1 (.int .i64 size)))
  clear a0 a1 b0 b1 b2 d0 d1 d2
  obtain ⟨⟨a0, a1⟩, ⟨b0, b1, b2⟩, d0, d1, d2⟩ := KE.all (KE.next HK1.out hb2)
  obtain ⟨f0, f1⟩ := KE.fr (KE.next HK1.out hb2)
  clear hown hb2
  go_wp2_with fail
  clear a0 a1 b0 b1 b2 d0 d1 d2 f0 f1
  generalize (w2.setCell ⟨w.heap.size, 0, none⟩ (.slice A L.length c)).setCell ⟨w.heap.size, 1, none⟩ (.int .i64 size) = W2 at *
  obtain ⟨⟨a0, a1⟩, ⟨b0, b1, b2⟩, d0, d1, d2⟩ := KE.all HK2.out
  go_wp2_with fail
  refine (HOwn1.out A c hcap _ HR2.out).mono ?_
  rintro e w3 ⟨A1, c1, rfl, hown, hb3⟩
  have HR3 := Lib.hid (OCells.reads (World.ownsRow.alloc (show w3.ownsRow _ _ _ _ _ _ from hown) (.cells #[.slice A1 L.length c1, .int .i64 size] 24)))
  have HB3 := Lib.hid (Blk.new w3 24 #[.slice A1 L.length c1, .int .i64 size])
  have HK3 := Lib.hid (KE.next (KE.next HK2.out hb3) (al w3 (.cells #[.slice A1 L.length c1, .int .i64 size] 24)))
  have HR3l := Lib.hid ((HR2.out.next hb3).next (al w3 (.cells #[.slice A1 L.length c1, .int .i64 size] 24)))
  clear hown hb3 a0 a1 b0 b1 b2 d0 d1 d2 HAw HOwn0 HOwn1 HR HK HK1
  go_upto_region 5 with fail
  generalize w3.heap.size = bi at *
  generalize w3.alloc (.cells #[.slice A1 L.length c1, .int .i64 size] 24) = W3 at *
  obtain ⟨⟨a0, a1⟩, ⟨b0, b1, b2⟩, d0, d1, d2⟩ := KE.all HK3.out
  have HN4 := Lib.hid (rints_new W3 3 [q, (wrap64 xr).tmod 10] #[.int .i64 q, .int .i64 ((wrap64 xr).tmod 10)] rfl W3.heap.size rfl)
  have HA4 := al W3 (.cells #[.int .i64 q, .int .i64 ((wrap64 xr).tmod 10)] 3)
  have HB4 := Lib.hid (HB3.out.next HA4); have HK4 := Lib.hid (KE.next HK3.out HA4); have HR4 := Lib.hid (HR3.out.next HA4); have HR4l := Lib.hid (HR3l.out.next HA4)
  clear HA4
  go_upto_region 6 with fail
  clear a0 a1 b0 b1 b2 d0 d1 d2 HB3 HK3 HR3 HR3l
  generalize W3.heap.size = bp at *
  generalize W3.alloc (.cells #[.int .i64 q, .int .i64 ((wrap64 xr).tmod 10)] 3) = W4 at *
  obtain ⟨⟨a0, a1⟩, ⟨b0, b1, b2⟩, d0, d1, d2⟩ := KE.all HK4.out
  by_cases hq : (q.tmod 3 == 0) = true
  · --#1
    have HNs : Hid (RInts W4 none ([] : List Int)) := Lib.hid ⟨rfl, fun h => absurd h (by simp)⟩
    go_upto_region 8 with fail
    clear a0 a1 b0 b1 b2 d0 d1 d2 hq
    have hT : hiP L.length t ≤ L.length := by unfold hiP; omega
    have HP1 := Lib.hid (fun W h => fill_any (⟨xg, xr, xk⟩ : Cl) A1 c1 L size f t (by have := HM.out; omega) W h)
    have HQ1 := Lib.hid (fun W h => (by
      have := refEach_any 1 (fun _ => (⟨xg, xr, xk⟩ : Cl)) (⟨xg, xr, xk⟩ : Cl) (.slice none 0 0) A c L size f t (by have := HM.out; omega) W h (fun y _ V _ => refFill_any y (⟨xg, xr, xk⟩ : Cl) (.slice none 0 0) V)
      rw [each_upd _ _ _ _ hT] at this
      exact this : Calls Tryd.prog 8 #[.int .i64 1, lineV A L.length c size, .int .i64 f, .int .i64 t, ((⟨xg, xr, xk⟩ : Cl)).val, .slice none 0 0] W fun e w' => ∃ A c, e = .returned (lineV A L.length c size) ∧ OCells w' (W.heap.size + 3) (.slice A L.length c) (eachP (fun _ => (⟨xg, xr, xk⟩ : Cl)) L (loP f) (hiP L.length t - loP f)) ∧ Below W.heap.size W w'))
    have HE1 := Lib.hid (eachP_size (fun _ => (⟨xg, xr, xk⟩ : Cl)) L (loP f) (hiP L.length t) hT)
    have HP2 := Lib.hid (fun W h => erase_any A1 c1 L size f t (by have := HM.out; omega) W h)
    have HQ2 := Lib.hid (fun W h => (by
      have := refEach_any 1 (fun _ => (⟨32, 0, false⟩ : Cl)) (⟨32, 0, false⟩ : Cl) (.slice none 0 0) A c L size f t (by have := HM.out; omega) W h (fun y _ V _ => refFill_any y (⟨32, 0, false⟩ : Cl) (.slice none 0 0) V)
      rw [each_upd _ _ _ _ hT] at this
      exact this : Calls Tryd.prog 8 #[.int .i64 1, lineV A L.length c size, .int .i64 f, .int .i64 t, ((⟨32, 0, false⟩ : Cl)).val, .slice none 0 0] W fun e w' => ∃ A c, e = .returned (lineV A L.length c size) ∧ OCells w' (W.heap.size + 3) (.slice A L.length c) (eachP (fun _ => (⟨32, 0, false⟩ : Cl)) L (loP f) (hiP L.length t - loP f)) ∧ Below W.heap.size W w'))
    have HE2 := Lib.hid (eachP_size (fun _ => (⟨32, 0, false⟩ : Cl)) L (loP f) (hiP L.length t) hT)
    have HP3 := Lib.hid (fun W h => clean_any A1 c1 L size f t (by have := HM.out; omega) W h)
    have HQ3 := Lib.hid (fun W h => (by
      have := refEach_any 2 (cleanC 32) (⟨xg, xr, xk⟩ : Cl) (.slice none 0 0) A c L size f t (by have := HM.out; omega) W h (fun y _ V _ => refClean1_any y (⟨xg, xr, xk⟩ : Cl) (.slice none 0 0) V)
      rw [each_upd _ _ _ _ hT] at this
      exact this : Calls Tryd.prog 8 #[.int .i64 2, lineV A L.length c size, .int .i64 f, .int .i64 t, ((⟨xg, xr, xk⟩ : Cl)).val, .slice none 0 0] W fun e w' => ∃ A c, e = .returned (lineV A L.length c size) ∧ OCells w' (W.heap.size + 3) (.slice A L.length c) (eachP (cleanC 32) L (loP f) (hiP L.length t - loP f)) ∧ Below W.heap.size W w'))
    have HE3 := Lib.hid (eachP_size (cleanC 32) L (loP f) (hiP L.length t) hT)
    have HP4 := Lib.hid (fun W h (tW : Tab W) (nW : RInts W none ([] : List Int)) => change_any A1 c1 L size f t (by have := HM.out; omega) HOk.out none 0 ([] : List Int) (by simp [maxLen]) W h tW nW)
    have HQ4 := Lib.hid (fun W h (nW : RInts W none ([] : List Int)) => (by
      have := refEach_any 3 (applyC ([] : List Int)) (⟨xg, xr, xk⟩ : Cl) (.slice none 0 0) A c L size f t (by have := HM.out; omega) W h (fun y hy V hb => refApply1_any y (⟨xg, xr, xk⟩ : Cl) (HOk.out y hy).2 none 0 ([] : List Int) (by simp [maxLen]) V (nW.next hb))
      rw [each_upd _ _ _ _ hT] at this
      exact this : Calls Tryd.prog 8 #[.int .i64 3, lineV A L.length c size, .int .i64 f, .int .i64 t, ((⟨xg, xr, xk⟩ : Cl)).val, .slice none 0 0] W fun e w' => ∃ A c, e = .returned (lineV A L.length c size) ∧ OCells w' (W.heap.size + 3) (.slice A L.length c) (eachP (applyC ([] : List Int)) L (loP f) (hiP L.length t - loP f)) ∧ Below W.heap.size W w'))
    have HE4 := Lib.hid (eachP_size (applyC ([] : List Int)) L (loP f) (hiP L.length t) hT)
    have HP5 := Lib.hid (fun W h (tW : Tab W) (nW : RInts W none ([] : List Int)) => flipAll_any A1 c1 L size f t (by have := HM.out; omega) HOk.out none 0 ([] : List Int) (by simp [maxLen]) W h tW nW)
    have HQ5 := Lib.hid (fun W h (nW : RInts W none ([] : List Int)) => (by
      have := refEach_any 4 (flipC ([] : List Int)) (⟨xg, xr, xk⟩ : Cl) (.slice none 0 0) A c L size f t (by have := HM.out; omega) W h (fun y hy V hb => refFlip1_any y (⟨xg, xr, xk⟩ : Cl) (HOk.out y hy).2 none 0 ([] : List Int) (by simp [maxLen]) V (nW.next hb))
      rw [each_upd _ _ _ _ hT] at this
      exact this : Calls Tryd.prog 8 #[.int .i64 4, lineV A L.length c size, .int .i64 f, .int .i64 t, ((⟨xg, xr, xk⟩ : Cl)).val, .slice none 0 0] W fun e w' => ∃ A c, e = .returned (lineV A L.length c size) ∧ OCells w' (W.heap.size + 3) (.slice A L.length c) (eachP (flipC ([] : List Int)) L (loP f) (hiP L.length t - loP f)) ∧ Below W.heap.size W w'))
    have HE5 := Lib.hid (eachP_size (flipC ([] : List Int)) L (loP f) (hiP L.length t) hT)
    have HP6 := Lib.hid (fun W h => keep_any A1 c1 L size f t xk (by have := HM.out; omega) W h)
    have HQ6 := Lib.hid (fun W h => (by
      have := refEach_any 5 (keepC xk) (⟨xg, xr, xk⟩ : Cl) (.slice none 0 0) A c L size f t (by have := HM.out; omega) W h (fun y _ V _ => refKeep1_any y (⟨xg, xr, xk⟩ : Cl) (.slice none 0 0) V)
      rw [each_upd _ _ _ _ hT] at this
      exact this : Calls Tryd.prog 8 #[.int .i64 5, lineV A L.length c size, .int .i64 f, .int .i64 t, ((⟨xg, xr, xk⟩ : Cl)).val, .slice none 0 0] W fun e w' => ∃ A c, e = .returned (lineV A L.length c size) ∧ OCells w' (W.heap.size + 3) (.slice A L.length c) (eachP (keepC xk) L (loP f) (hiP L.length t - loP f)) ∧ Below W.heap.size W w'))
    have HE6 := Lib.hid (eachP_size (keepC xk) L (loP f) (hiP L.length t) hT)
    generalize eachP (fun _ => (⟨xg, xr, xk⟩ : Cl)) L (loP f) (hiP L.length t - loP f) = E1 at *
    generalize eachP (fun _ => (⟨32, 0, false⟩ : Cl)) L (loP f) (hiP L.length t - loP f) = E2 at *
    generalize eachP (cleanC 32) L (loP f) (hiP L.length t - loP f) = E3 at *
    generalize eachP (applyC ([] : List Int)) L (loP f) (hiP L.length t - loP f) = E4 at *
    generalize eachP (flipC ([] : List Int)) L (loP f) (hiP L.length t - loP f) = E5 at *
    generalize eachP (keepC xk) L (loP f) (hiP L.length t - loP f) = E6 at *
    unfold lineV at HP1 HP2 HP3 HP4 HP5 HP6; unfold Cl.val at HP1; unfold lineV Cl.val at HQ1 HQ2 HQ3 HQ4 HQ5 HQ6
    clear hT
    have HTW := Lib.hid (fun w' (h : Only [] W4 w') => HT.out.next (HK4.out.2.2.2.trans (h.below0.mono HK4.out.2.2.2.size)))
    have HC := Lib.hid (fun w' (h : Only [] W4 w') => And.intro (KE.all (KE.only HK4.out h)) (cells2 (HB4.out.next h.below0)))
    refine wp_region_mix_lit (by kernel_rfl) [(6, .letter (LnP L.length size) (LnF W4.heap.size E1 size)), (13, .letter (LnP L.length size) (LnF W4.heap.size E1 size)), (14, .letter PrP (PrF W4.heap.size E1 size)), (20, .letter (LnP L.length size) (LnF W4.heap.size E2 size)), (27, .letter (LnP L.length size) (LnF W4.heap.size E2 size)), (28, .letter PrP (PrF W4.heap.size E2 size)), (34, .letter (LnP L.length size) (LnF W4.heap.size E3 size)), (41, .letter (LnP L.length size) (LnF W4.heap.size E3 size)), (42, .letter PrP (PrF W4.heap.size E3 size)), (49, .letter (LnP L.length size) (LnF W4.heap.size E4 size)), (57, .letter (LnP L.length size) (LnF W4.heap.size E4 size)), (58, .letter PrP (PrF W4.heap.size E4 size)), (65, .letter (LnP L.length size) (LnF W4.heap.size E5 size)), (73, .letter (LnP L.length size) (LnF W4.heap.size E5 size)), (74, .letter PrP (PrF W4.heap.size E5 size)), (82, .letter (LnP L.length size) (LnF W4.heap.size E6 size)), (89, .letter (LnP L.length size) (LnF W4.heap.size E6 size)), (90, .letter PrP (PrF W4.heap.size E6 size)), (91, .letter PsP (PsF W4.heap.size [E1, E2, E3, E4, E5, E6] size))] (by kernel_rfl) (by kernel_rfl) (by kernel_rfl) (by rfl) (by simp [apartK] <;> omega) (by simp [startK]) (by simp only [List.forall_mem_cons, stabK]; exact ⟨lnF_stab _ _ _ _ (by simp [boxes, Kind.boxed]), lnF_stab _ _ _ _ (by simp [boxes, Kind.boxed]), prF_stab _ _ _ _ rfl, lnF_stab _ _ _ _ (by simp [boxes, Kind.boxed]), lnF_stab _ _ _ _ (by simp [boxes, Kind.boxed]), prF_stab _ _ _ _ rfl, lnF_stab _ _ _ _ (by simp [boxes, Kind.boxed]), lnF_stab _ _ _ _ (by simp [boxes, Kind.boxed]), prF_stab _ _ _ _ rfl, lnF_stab _ _ _ _ (by simp [boxes, Kind.boxed]), lnF_stab _ _ _ _ (by simp [boxes, Kind.boxed]), prF_stab _ _ _ _ rfl, lnF_stab _ _ _ _ (by simp [boxes, Kind.boxed]), lnF_stab _ _ _ _ (by simp [boxes, Kind.boxed]), prF_stab _ _ _ _ rfl, lnF_stab _ _ _ _ (by simp [boxes, Kind.boxed]), lnF_stab _ _ _ _ (by simp [boxes, Kind.boxed]), prF_stab _ _ _ _ rfl, psF_stab _ _ _ _ rfl, by simp⟩) (⟨fun i => if i = 91 then .slice (some ⟨0, 0, none⟩) 6 6 else if i = 14 then .slice (some ⟨0, 0, none⟩) 2 2 else if i = 28 then .slice (some ⟨0, 0, none⟩) 2 2 else if i = 42 then .slice (some ⟨0, 0, none⟩) 2 2 else if i = 58 then .slice (some ⟨0, 0, none⟩) 2 2 else if i = 74 then .slice (some ⟨0, 0, none⟩) 2 2 else if i = 90 then .slice (some ⟨0, 0, none⟩) 2 2 else lineV none L.length L.length size, by simp only [List.forall_mem_cons, okK]; exact ⟨⟨none, _, rfl, Nat.le_refl _⟩, ⟨none, _, rfl, Nat.le_refl _⟩, ⟨0, rfl⟩, ⟨none, _, rfl, Nat.le_refl _⟩, ⟨none, _, rfl, Nat.le_refl _⟩, ⟨0, rfl⟩, ⟨none, _, rfl, Nat.le_refl _⟩, ⟨none, _, rfl, Nat.le_refl _⟩, ⟨0, rfl⟩, ⟨none, _, rfl, Nat.le_refl _⟩, ⟨none, _, rfl, Nat.le_refl _⟩, ⟨0, rfl⟩, ⟨none, _, rfl, Nat.le_refl _⟩, ⟨none, _, rfl, Nat.le_refl _⟩, ⟨0, rfl⟩, ⟨none, _, rfl, Nat.le_refl _⟩, ⟨none, _, rfl, Nat.le_refl _⟩, ⟨0, rfl⟩, ⟨0, rfl⟩, by simp⟩⟩) (fun β hβ => ?_)
    obtain ⟨Ap0, cp0, ep0, _⟩ := (hβ 6 : LnP L.length size (β 6))
    obtain ⟨Aq0, cq0, eq0, _⟩ := (hβ 13 : LnP L.length size (β 13))
    obtain ⟨gs0, es0⟩ := (hβ 14 : PrP (β 14))
    obtain ⟨Ap1, cp1, ep1, _⟩ := (hβ 20 : LnP L.length size (β 20))
    obtain ⟨Aq1, cq1, eq1, _⟩ := (hβ 27 : LnP L.length size (β 27))
    obtain ⟨gs1, es1⟩ := (hβ 28 : PrP (β 28))
    obtain ⟨Ap2, cp2, ep2, _⟩ := (hβ 34 : LnP L.length size (β 34))
    obtain ⟨Aq2, cq2, eq2, _⟩ := (hβ 41 : LnP L.length size (β 41))
    obtain ⟨gs2, es2⟩ := (hβ 42 : PrP (β 42))
    obtain ⟨Ap3, cp3, ep3, _⟩ := (hβ 49 : LnP L.length size (β 49))
    obtain ⟨Aq3, cq3, eq3, _⟩ := (hβ 57 : LnP L.length size (β 57))
    obtain ⟨gs3, es3⟩ := (hβ 58 : PrP (β 58))
    obtain ⟨Ap4, cp4, ep4, _⟩ := (hβ 65 : LnP L.length size (β 65))
    obtain ⟨Aq4, cq4, eq4, _⟩ := (hβ 73 : LnP L.length size (β 73))
    obtain ⟨gs4, es4⟩ := (hβ 74 : PrP (β 74))
    obtain ⟨Ap5, cp5, ep5, _⟩ := (hβ 82 : LnP L.length size (β 82))
    obtain ⟨Aq5, cq5, eq5, _⟩ := (hβ 89 : LnP L.length size (β 89))
    obtain ⟨gs5, es5⟩ := (hβ 90 : PrP (β 90))
    obtain ⟨go, eo⟩ := (hβ 91 : PsP (β 91))
    unfold lineV at ep0 eq0 ep1 eq1 ep2 eq2 ep3 eq3 ep4 eq4 ep5 eq5
    repeat (
      refine lex_val (v := ?_) rfl rfl (fun w' hf => ?_) ?_
      rotate_left
      · obtain ⟨⟨⟨a0, a1⟩, ⟨b0, b1, b2⟩, d0, d1, d2⟩, i0, i1, _, _⟩ := HC.out w' hf.only; go_simp
        try rfl
      try simp only [Act.put, List.setIfInBounds_toArray, List.set_cons_zero, List.set_cons_succ])
    refine lex_letter (f := 7) (args := ?_) rfl rfl (fun w' hf => ?_) (fun w' hf => ?_) ?_
    rotate_left
    · go_simp
      try rfl
    · exact ln_row hf.only.size HE1.out (by rw [← HE1.out]; have := HM.out; omega) (HP1.out w' (HR4.out.next hf.only.below0))
    try simp only [Act.put, List.setIfInBounds_toArray, List.set_cons_zero, List.set_cons_succ]
    repeat (
      refine lex_val (v := ?_) rfl rfl (fun w' hf => ?_) ?_
      rotate_left
      · obtain ⟨⟨⟨a0, a1⟩, ⟨b0, b1, b2⟩, d0, d1, d2⟩, i0, i1, _, _⟩ := HC.out w' hf.only; go_simp
        try rfl
      try simp only [Act.put, List.setIfInBounds_toArray, List.set_cons_zero, List.set_cons_succ])
    refine lex_letter (f := 8) (args := ?_) rfl rfl (fun w' hf => ?_) (fun w' hf => ?_) ?_
    rotate_left
    · go_simp
      try rfl
    · exact ln_own (by have := hf.only.size; omega) HE1.out (HQ1.out w' (HR4l.out.next hf.only.below0))
    try simp only [Act.put, List.setIfInBounds_toArray, List.set_cons_zero, List.set_cons_succ]
    refine lex_made rfl rfl (fun w' hf => ⟨.slice (some ⟨w'.heap.size, 0, none⟩) 2 2, w'.alloc (.cells #[.slice Ap0 L.length cp0, .int .i64 size, .slice Aq0 L.length cq0, .int .i64 size] 24), ?_, ⟨_, rfl⟩, ⟨w'.heap.size, β 6, β 13, rfl, hf.only.size, by rw [ep0, eq0]; exact Blk.new _ _ _, LnF.next (hf.got 6 _ _ rfl (by kernel_rfl)) (al _ _), LnF.next (hf.got 13 _ _ rfl (by kernel_rfl)) (al _ _)⟩, al _ _⟩) ?_
    · go_simp
    try simp only [Act.put, List.setIfInBounds_toArray, List.set_cons_zero, List.set_cons_succ]
    repeat (
      refine lex_val (v := ?_) rfl rfl (fun w' hf => ?_) ?_
      rotate_left
      · obtain ⟨⟨⟨a0, a1⟩, ⟨b0, b1, b2⟩, d0, d1, d2⟩, i0, i1, _, _⟩ := HC.out w' hf.only; go_simp
        try rfl
      try simp only [Act.put, List.setIfInBounds_toArray, List.set_cons_zero, List.set_cons_succ])
    refine lex_letter (f := 9) (args := ?_) rfl rfl (fun w' hf => ?_) (fun w' hf => ?_) ?_
    rotate_left
    · go_simp
      try rfl
    · exact ln_own (by have := hf.only.size; omega) HE2.out (HP2.out w' (HR4.out.next hf.only.below0))
    try simp only [Act.put, List.setIfInBounds_toArray, List.set_cons_zero, List.set_cons_succ]
    repeat (
      refine lex_val (v := ?_) rfl rfl (fun w' hf => ?_) ?_
      rotate_left
      · obtain ⟨⟨⟨a0, a1⟩, ⟨b0, b1, b2⟩, d0, d1, d2⟩, i0, i1, _, _⟩ := HC.out w' hf.only; go_simp
        try rfl
      try simp only [Act.put, List.setIfInBounds_toArray, List.set_cons_zero, List.set_cons_succ])
    refine lex_letter (f := 8) (args := ?_) rfl rfl (fun w' hf => ?_) (fun w' hf => ?_) ?_
    rotate_left
    · go_simp
      try rfl
    · exact ln_own (by have := hf.only.size; omega) HE2.out (HQ2.out w' (HR4l.out.next hf.only.below0))
    try simp only [Act.put, List.setIfInBounds_toArray, List.set_cons_zero, List.set_cons_succ]
    refine lex_made rfl rfl (fun w' hf => ⟨.slice (some ⟨w'.heap.size, 0, none⟩) 2 2, w'.alloc (.cells #[.slice Ap1 L.length cp1, .int .i64 size, .slice Aq1 L.length cq1, .int .i64 size] 24), ?_, ⟨_, rfl⟩, ⟨w'.heap.size, β 20, β 27, rfl, hf.only.size, by rw [ep1, eq1]; exact Blk.new _ _ _, LnF.next (hf.got 20 _ _ rfl (by kernel_rfl)) (al _ _), LnF.next (hf.got 27 _ _ rfl (by kernel_rfl)) (al _ _)⟩, al _ _⟩) ?_
    · go_simp
    try simp only [Act.put, List.setIfInBounds_toArray, List.set_cons_zero, List.set_cons_succ]
    repeat (
      refine lex_val (v := ?_) rfl rfl (fun w' hf => ?_) ?_
      rotate_left
      · obtain ⟨⟨⟨a0, a1⟩, ⟨b0, b1, b2⟩, d0, d1, d2⟩, i0, i1, _, _⟩ := HC.out w' hf.only; go_simp
        try rfl
      try simp only [Act.put, List.setIfInBounds_toArray, List.set_cons_zero, List.set_cons_succ])
    refine lex_letter (f := 10) (args := ?_) rfl rfl (fun w' hf => ?_) (fun w' hf => ?_) ?_
    rotate_left
    · go_simp
      try rfl
    · exact ln_own (by have := hf.only.size; omega) HE3.out (HP3.out w' (HR4.out.next hf.only.below0))
    try simp only [Act.put, List.setIfInBounds_toArray, List.set_cons_zero, List.set_cons_succ]
    repeat (
      refine lex_val (v := ?_) rfl rfl (fun w' hf => ?_) ?_
      rotate_left
      · obtain ⟨⟨⟨a0, a1⟩, ⟨b0, b1, b2⟩, d0, d1, d2⟩, i0, i1, _, _⟩ := HC.out w' hf.only; go_simp
        try rfl
      try simp only [Act.put, List.setIfInBounds_toArray, List.set_cons_zero, List.set_cons_succ])
    refine lex_letter (f := 8) (args := ?_) rfl rfl (fun w' hf => ?_) (fun w' hf => ?_) ?_
    rotate_left
    · go_simp
      try rfl
    · exact ln_own (by have := hf.only.size; omega) HE3.out (HQ3.out w' (HR4l.out.next hf.only.below0))
    try simp only [Act.put, List.setIfInBounds_toArray, List.set_cons_zero, List.set_cons_succ]
    refine lex_made rfl rfl (fun w' hf => ⟨.slice (some ⟨w'.heap.size, 0, none⟩) 2 2, w'.alloc (.cells #[.slice Ap2 L.length cp2, .int .i64 size, .slice Aq2 L.length cq2, .int .i64 size] 24), ?_, ⟨_, rfl⟩, ⟨w'.heap.size, β 34, β 41, rfl, hf.only.size, by rw [ep2, eq2]; exact Blk.new _ _ _, LnF.next (hf.got 34 _ _ rfl (by kernel_rfl)) (al _ _), LnF.next (hf.got 41 _ _ rfl (by kernel_rfl)) (al _ _)⟩, al _ _⟩) ?_
    · go_simp
    try simp only [Act.put, List.setIfInBounds_toArray, List.set_cons_zero, List.set_cons_succ]
    repeat (
      refine lex_val (v := ?_) rfl rfl (fun w' hf => ?_) ?_
      rotate_left
      · obtain ⟨⟨⟨a0, a1⟩, ⟨b0, b1, b2⟩, d0, d1, d2⟩, i0, i1, _, _⟩ := HC.out w' hf.only; go_simp
        try rfl
      try simp only [Act.put, List.setIfInBounds_toArray, List.set_cons_zero, List.set_cons_succ])
    refine lex_letter (f := 11) (args := ?_) rfl rfl (fun w' hf => ?_) (fun w' hf => ?_) ?_
    rotate_left
    · go_simp
      try rfl
    · exact ln_row hf.only.size HE4.out (by rw [← HE4.out]; have := HM.out; omega) (HP4.out w' (HR4.out.next hf.only.below0) (HTW.out w' hf.only) (HNs.out.next hf.only.below0))
    try simp only [Act.put, List.setIfInBounds_toArray, List.set_cons_zero, List.set_cons_succ]
    repeat (
      refine lex_val (v := ?_) rfl rfl (fun w' hf => ?_) ?_
      rotate_left
      · obtain ⟨⟨⟨a0, a1⟩, ⟨b0, b1, b2⟩, d0, d1, d2⟩, i0, i1, _, _⟩ := HC.out w' hf.only; go_simp
        try rfl
      try simp only [Act.put, List.setIfInBounds_toArray, List.set_cons_zero, List.set_cons_succ])
    refine lex_letter (f := 8) (args := ?_) rfl rfl (fun w' hf => ?_) (fun w' hf => ?_) ?_
    rotate_left
    · go_simp
      try rfl
    · exact ln_own (by have := hf.only.size; omega) HE4.out (HQ4.out w' (HR4l.out.next hf.only.below0) (HNs.out.next hf.only.below0))
    try simp only [Act.put, List.setIfInBounds_toArray, List.set_cons_zero, List.set_cons_succ]
    refine lex_made rfl rfl (fun w' hf => ⟨.slice (some ⟨w'.heap.size, 0, none⟩) 2 2, w'.alloc (.cells #[.slice Ap3 L.length cp3, .int .i64 size, .slice Aq3 L.length cq3, .int .i64 size] 24), ?_, ⟨_, rfl⟩, ⟨w'.heap.size, β 49, β 57, rfl, hf.only.size, by rw [ep3, eq3]; exact Blk.new _ _ _, LnF.next (hf.got 49 _ _ rfl (by kernel_rfl)) (al _ _), LnF.next (hf.got 57 _ _ rfl (by kernel_rfl)) (al _ _)⟩, al _ _⟩) ?_
    · go_simp
    try simp only [Act.put, List.setIfInBounds_toArray, List.set_cons_zero, List.set_cons_succ]
    repeat (
      refine lex_val (v := ?_) rfl rfl (fun w' hf => ?_) ?_
      rotate_left
      · obtain ⟨⟨⟨a0, a1⟩, ⟨b0, b1, b2⟩, d0, d1, d2⟩, i0, i1, _, _⟩ := HC.out w' hf.only; go_simp
        try rfl
      try simp only [Act.put, List.setIfInBounds_toArray, List.set_cons_zero, List.set_cons_succ])
    refine lex_letter (f := 12) (args := ?_) rfl rfl (fun w' hf => ?_) (fun w' hf => ?_) ?_
    rotate_left
    · go_simp
      try rfl
    · exact ln_row hf.only.size HE5.out (by rw [← HE5.out]; have := HM.out; omega) (HP5.out w' (HR4.out.next hf.only.below0) (HTW.out w' hf.only) (HNs.out.next hf.only.below0))
    try simp only [Act.put, List.setIfInBounds_toArray, List.set_cons_zero, List.set_cons_succ]
    repeat (
      refine lex_val (v := ?_) rfl rfl (fun w' hf => ?_) ?_
      rotate_left
      · obtain ⟨⟨⟨a0, a1⟩, ⟨b0, b1, b2⟩, d0, d1, d2⟩, i0, i1, _, _⟩ := HC.out w' hf.only; go_simp
        try rfl
      try simp only [Act.put, List.setIfInBounds_toArray, List.set_cons_zero, List.set_cons_succ])
    refine lex_letter (f := 8) (args := ?_) rfl rfl (fun w' hf => ?_) (fun w' hf => ?_) ?_
    rotate_left
    · go_simp
      try rfl
    · exact ln_own (by have := hf.only.size; omega) HE5.out (HQ5.out w' (HR4l.out.next hf.only.below0) (HNs.out.next hf.only.below0))
    try simp only [Act.put, List.setIfInBounds_toArray, List.set_cons_zero, List.set_cons_succ]
    refine lex_made rfl rfl (fun w' hf => ⟨.slice (some ⟨w'.heap.size, 0, none⟩) 2 2, w'.alloc (.cells #[.slice Ap4 L.length cp4, .int .i64 size, .slice Aq4 L.length cq4, .int .i64 size] 24), ?_, ⟨_, rfl⟩, ⟨w'.heap.size, β 65, β 73, rfl, hf.only.size, by rw [ep4, eq4]; exact Blk.new _ _ _, LnF.next (hf.got 65 _ _ rfl (by kernel_rfl)) (al _ _), LnF.next (hf.got 73 _ _ rfl (by kernel_rfl)) (al _ _)⟩, al _ _⟩) ?_
    · go_simp
    try simp only [Act.put, List.setIfInBounds_toArray, List.set_cons_zero, List.set_cons_succ]
    repeat (
      refine lex_val (v := ?_) rfl rfl (fun w' hf => ?_) ?_
      rotate_left
      · obtain ⟨⟨⟨a0, a1⟩, ⟨b0, b1, b2⟩, d0, d1, d2⟩, i0, i1, _, _⟩ := HC.out w' hf.only; go_simp
        try rfl
      try simp only [Act.put, List.setIfInBounds_toArray, List.set_cons_zero, List.set_cons_succ])
    refine lex_letter (f := 13) (args := ?_) rfl rfl (fun w' hf => ?_) (fun w' hf => ?_) ?_
    rotate_left
    · go_simp
      try rfl
    · exact ln_row hf.only.size HE6.out (by rw [← HE6.out]; have := HM.out; omega) (HP6.out w' (HR4.out.next hf.only.below0))
    try simp only [Act.put, List.setIfInBounds_toArray, List.set_cons_zero, List.set_cons_succ]
    repeat (
      refine lex_val (v := ?_) rfl rfl (fun w' hf => ?_) ?_
      rotate_left
      · obtain ⟨⟨⟨a0, a1⟩, ⟨b0, b1, b2⟩, d0, d1, d2⟩, i0, i1, _, _⟩ := HC.out w' hf.only; go_simp
        try rfl
      try simp only [Act.put, List.setIfInBounds_toArray, List.set_cons_zero, List.set_cons_succ])
    refine lex_letter (f := 8) (args := ?_) rfl rfl (fun w' hf => ?_) (fun w' hf => ?_) ?_
    rotate_left
    · go_simp
      try rfl
    · exact ln_own (by have := hf.only.size; omega) HE6.out (HQ6.out w' (HR4l.out.next hf.only.below0))
    try simp only [Act.put, List.setIfInBounds_toArray, List.set_cons_zero, List.set_cons_succ]
    refine lex_made rfl rfl (fun w' hf => ⟨.slice (some ⟨w'.heap.size, 0, none⟩) 2 2, w'.alloc (.cells #[.slice Ap5 L.length cp5, .int .i64 size, .slice Aq5 L.length cq5, .int .i64 size] 24), ?_, ⟨_, rfl⟩, ⟨w'.heap.size, β 82, β 89, rfl, hf.only.size, by rw [ep5, eq5]; exact Blk.new _ _ _, LnF.next (hf.got 82 _ _ rfl (by kernel_rfl)) (al _ _), LnF.next (hf.got 89 _ _ rfl (by kernel_rfl)) (al _ _)⟩, al _ _⟩) ?_
    · go_simp
    try simp only [Act.put, List.setIfInBounds_toArray, List.set_cons_zero, List.set_cons_succ]
    refine lex_made rfl rfl (fun w' hf => ⟨.slice (some ⟨w'.heap.size, 0, none⟩) 6 6, w'.alloc (.cells #[.slice (some ⟨gs0, 0, none⟩) 2 2, .slice (some ⟨gs1, 0, none⟩) 2 2, .slice (some ⟨gs2, 0, none⟩) 2 2, .slice (some ⟨gs3, 0, none⟩) 2 2, .slice (some ⟨gs4, 0, none⟩) 2 2, .slice (some ⟨gs5, 0, none⟩) 2 2] 35), ?_, ⟨_, rfl⟩, ⟨w'.heap.size, [β 14, β 28, β 42, β 58, β 74, β 90], rfl, hf.only.size, rfl, by rw [es0, es1, es2, es3, es4, es5]; exact Blk.new _ _ _, ?_⟩, al _ _⟩) ?_
    · go_simp
    · intro i s E h1 h2
      match i with
      | 0 => obtain rfl := Option.some.inj h1; obtain rfl := Option.some.inj h2; exact PrF.next (hf.got 14 _ _ rfl (by kernel_rfl)) (al _ _)
      | 1 => obtain rfl := Option.some.inj h1; obtain rfl := Option.some.inj h2; exact PrF.next (hf.got 28 _ _ rfl (by kernel_rfl)) (al _ _)
      | 2 => obtain rfl := Option.some.inj h1; obtain rfl := Option.some.inj h2; exact PrF.next (hf.got 42 _ _ rfl (by kernel_rfl)) (al _ _)
      | 3 => obtain rfl := Option.some.inj h1; obtain rfl := Option.some.inj h2; exact PrF.next (hf.got 58 _ _ rfl (by kernel_rfl)) (al _ _)
      | 4 => obtain rfl := Option.some.inj h1; obtain rfl := Option.some.inj h2; exact PrF.next (hf.got 74 _ _ rfl (by kernel_rfl)) (al _ _)
      | 5 => obtain rfl := Option.some.inj h1; obtain rfl := Option.some.inj h2; exact PrF.next (hf.got 90 _ _ rfl (by kernel_rfl)) (al _ _)
      | n + 6 => simp at h1
    try simp only [Act.put, List.setIfInBounds_toArray, List.set_cons_zero, List.set_cons_succ]
    repeat (
      refine lex_val (v := ?_) rfl rfl (fun w' hf => ?_) ?_
      rotate_left
      · go_simp
        try rfl
      try simp only [Act.put, List.setIfInBounds_toArray, List.set_cons_zero, List.set_cons_succ])
    refine lex_nil fun w5 he => ?_
    have hps : PsF W4.heap.size [E1, E2, E3, E4, E5, E6] size (β 91) w5 := (he.facts 91).2
    have HK5 := Lib.hid (And.intro (KE.only HK4.out he.only) (And.intro (HB4.out.next he.only.below0) (And.intro (HR4.out.next he.only.below0) (HR4l.out.next he.only.below0))))
    generalize W4.heap.size = B4 at *
    obtain ⟨g, ss, eg, _, hss, hgb, hall⟩ := hps
    have HLs : Hid (∀ (i : Nat) (E : List Cl), [E1, E2, E3, E4, E5, E6][i]? = some E → L.length = E.length) := Lib.hid (by
      intro i E h
      match i with
      | 0 => obtain rfl := Option.some.inj h; exact HE1.out
      | 1 => obtain rfl := Option.some.inj h; exact HE2.out
      | 2 => obtain rfl := Option.some.inj h; exact HE3.out
      | 3 => obtain rfl := Option.some.inj h; exact HE4.out
      | 4 => obtain rfl := Option.some.inj h; exact HE5.out
      | 5 => obtain rfl := Option.some.inj h; exact HE6.out
      | n + 6 => simp at h)
    have HLn : Hid ([E1, E2, E3, E4, E5, E6].length = 6) := Lib.hid rfl
    have hgg : g = go := by have := eo.symm.trans eg; simp at this; exact this.symm
    subst hgg
    have HG := Lib.hid hgb; have HAll := Lib.hid hall; have HSs := Lib.hid hss
    clear he hβ hgb hall hss eg ep0 eq0 es0 ep1 eq1 es1 ep2 eq2 es2 ep3 eq3 es3 ep4 eq4 es4 ep5 eq5 es5 HC HTW HP1 HP2 HP3 HP4 HP5 HP6 HQ1 HQ2 HQ3 HQ4 HQ5 HQ6 HE1 HE2 HE3 HE4 HE5 HE6 HNs HK4 HB4 HR4 HR4l
    generalize [E1, E2, E3, E4, E5, E6] = Es at *
    clear E1 E2 E3 E4 E5 E6
    clear eo
    go_wp2_with fail
    go_loopw [123] (fun i wr => ∃ k : Nat, k ≤ 6 ∧ i = .int .i64 k ∧ Below w5.heap.size w5 wr) (fun i _ => 6 - (intOf i).toNat)
    case atStart => exact ⟨0, by omega, rfl, Below.refl _ _⟩
    case round =>
      obtain ⟨k, hk, rfl, hbr⟩ := hrel
      have HBr := Lib.hid hbr
      clear hbr
      by_cases hlt : k < 6
      · have hks : ss[k]? = some (ss[k]'(by rw [HSs.out]; exact hlt)) := List.getElem?_eq_getElem _
        have hke : Es[k]? = some (Es[k]'(by rw [HLn.out]; exact hlt)) := List.getElem?_eq_getElem _
        obtain ⟨g2, v1, v2, e2, _, hb2, hv1, hv2⟩ := HAll.out k _ _ hks hke
        have hlE := HLs.out k _ hke
        rw [e2] at hks
        have hcl := (HG.out.next HBr.out).cell k
        rw [List.getElem?_toArray, hks] at hcl
        clear hks hke e2
        generalize Es[k]'(by rw [HLn.out]; exact hlt) = E at *
        obtain ⟨P1, p1, rfl, hr1⟩ := hv1.as
        obtain ⟨P2, p2, rfl, hr2⟩ := hv2.as
        rw [← hlE] at hb2
        have HB2 : Hid (Blk w5 g2 24 #[.slice P1 L.length p1, .int .i64 size, .slice P2 L.length p2, .int .i64 size]) := Lib.hid hb2
        have HSm := Lib.hid (fun W (h1 : RCells W P1 E) (h2 : RCells W P2 E) => (by
          have := refSame_any P1 P2 p1 p2 E E size size (by rw [← hlE]; have := HM.out; unfold maxLen; omega) (by rw [← hlE]; have := HM.out; unfold maxLen; omega) W h1 h2
          rw [show decide (size = size ∧ E = E) = true from by simp, ← hlE] at this
          exact this : Calls Tryd.prog 14 #[lineV P1 L.length p1 size, lineV P2 L.length p2 size] W fun e w' => e = .returned (.bool true) ∧ Below W.heap.size W w'))
        unfold lineV at HSm
        have HR1 := Lib.hid hr1; have HR2 := Lib.hid hr2
        clear hb2 hv1 hv2 hr1 hr2 hlE
        have HC := Lib.hid (fun w' (h : Only [] wr w') => (HB2.out.next HBr.out).next h.below0)
        go_upto_region 12 with fail
        clear hcl
        refine wp_region_mix_lit (by kernel_rfl) [(6, .call (.bool true))] (by kernel_rfl) (by kernel_rfl) (by kernel_rfl) (by rfl) (by simp [apartK] <;> omega) (by simp [startK]) (by simp [stabK]) (⟨fun _ => undef, by simp [okK]⟩) (fun β hβ => ?_)
        repeat (
          refine lex_val (v := ?_) rfl rfl (fun w' hf => ?_) ?_
          rotate_left
          · obtain hB := HC.out w' hf.only; have y0 := hB.cell 0; have y1 := hB.cell 1; have y2 := hB.cell 2; have y3 := hB.cell 3; simp only [List.getElem?_toArray, List.getElem?_cons_zero, List.getElem?_cons_succ] at y0 y1 y2 y3; go_simp
            try rfl
          try simp only [Act.put, List.setIfInBounds_toArray, List.set_cons_zero, List.set_cons_succ])
        refine lex_call (f := 14) (args := ?_) rfl rfl (fun w' hf => ?_) (fun w' hf => ?_) ?_
        rotate_left
        · go_simp
          try rfl
        · exact HSm.out w' ((HR1.out.next HBr.out).next hf.only.below0) ((HR2.out.next HBr.out).next hf.only.below0)
        try simp only [Act.put, List.setIfInBounds_toArray, List.set_cons_zero, List.set_cons_succ]
        repeat (
          refine lex_val (v := ?_) rfl rfl (fun w' hf => ?_) ?_
          rotate_left
          · go_simp
            try rfl
          try simp only [Act.put, List.setIfInBounds_toArray, List.set_cons_zero, List.set_cons_succ])
        refine lex_nil fun w6 he => ?_
        have HBn := Lib.hid (HBr.out.trans (he.only.below0.mono HBr.out.size))
        clear he
        go_wp2_with fail
        go_roundw
        case rel => exact ⟨k + 1, by omega, by go_num, HBn.out⟩
        case measure => simp [intOf]; omega
      · obtain rfl : k = 6 := by omega
        have HSm := Lib.hid (fun W (h1 : RCells W A1 L) (h2 : RCells W A L) => (by
          have := refSame_any A1 A c1 c L L size size (by have := HM.out; unfold maxLen; omega) (by have := HM.out; unfold maxLen; omega) W h1 h2
          rw [show decide (size = size ∧ L = L) = true from by simp] at this
          exact this : Calls Tryd.prog 14 #[lineV A1 L.length c1 size, lineV A L.length c size] W fun e w' => e = .returned (.bool true) ∧ Below W.heap.size W w'))
        unfold lineV at HSm
        have HK6 := Lib.hid (KE.next HK5.out.1 HBr.out)
        obtain ⟨⟨a0, a1⟩, _, _⟩ := KE.all HK6.out
        obtain ⟨i0, i1, _, _⟩ := cells2 (HK5.out.2.1.next HBr.out)
        go_wp2_with fail
        refine (HSm.out _ (HK5.out.2.2.1.next HBr.out) (HK5.out.2.2.2.next HBr.out)).mono ?_
        rintro e w7 ⟨rfl, hb7⟩
        have hb8 := HK6.out.2.2.2.trans (hb7.mono HK6.out.2.2.2.size)
        clear hb7
        go_wp2_with fail
        go_ret
        exact ⟨rfl, hb8⟩
  · have hq2 : (q.tmod 3 == 0) = false := by simpa using hq
    --#2
    have HNs : Hid (RInts W4 (some ⟨bp, 0, none⟩) [q, (wrap64 xr).tmod 10]) := HN4
    go_upto_region 8 with fail
    clear a0 a1 b0 b1 b2 d0 d1 d2 hq
    have hT : hiP L.length t ≤ L.length := by unfold hiP; omega
    have HP1 := Lib.hid (fun W h => fill_any (⟨xg, xr, xk⟩ : Cl) A1 c1 L size f t (by have := HM.out; omega) W h)
    have HQ1 := Lib.hid (fun W h => (by
      have := refEach_any 1 (fun _ => (⟨xg, xr, xk⟩ : Cl)) (⟨xg, xr, xk⟩ : Cl) (.slice none 0 0) A c L size f t (by have := HM.out; omega) W h (fun y _ V _ => refFill_any y (⟨xg, xr, xk⟩ : Cl) (.slice none 0 0) V)
      rw [each_upd _ _ _ _ hT] at this
      exact this : Calls Tryd.prog 8 #[.int .i64 1, lineV A L.length c size, .int .i64 f, .int .i64 t, ((⟨xg, xr, xk⟩ : Cl)).val, .slice none 0 0] W fun e w' => ∃ A c, e = .returned (lineV A L.length c size) ∧ OCells w' (W.heap.size + 3) (.slice A L.length c) (eachP (fun _ => (⟨xg, xr, xk⟩ : Cl)) L (loP f) (hiP L.length t - loP f)) ∧ Below W.heap.size W w'))
    have HE1 := Lib.hid (eachP_size (fun _ => (⟨xg, xr, xk⟩ : Cl)) L (loP f) (hiP L.length t) hT)
    have HP2 := Lib.hid (fun W h => erase_any A1 c1 L size f t (by have := HM.out; omega) W h)
    have HQ2 := Lib.hid (fun W h => (by
      have := refEach_any 1 (fun _ => (⟨32, 0, false⟩ : Cl)) (⟨32, 0, false⟩ : Cl) (.slice none 0 0) A c L size f t (by have := HM.out; omega) W h (fun y _ V _ => refFill_any y (⟨32, 0, false⟩ : Cl) (.slice none 0 0) V)
      rw [each_upd _ _ _ _ hT] at this
      exact this : Calls Tryd.prog 8 #[.int .i64 1, lineV A L.length c size, .int .i64 f, .int .i64 t, ((⟨32, 0, false⟩ : Cl)).val, .slice none 0 0] W fun e w' => ∃ A c, e = .returned (lineV A L.length c size) ∧ OCells w' (W.heap.size + 3) (.slice A L.length c) (eachP (fun _ => (⟨32, 0, false⟩ : Cl)) L (loP f) (hiP L.length t - loP f)) ∧ Below W.heap.size W w'))
    have HE2 := Lib.hid (eachP_size (fun _ => (⟨32, 0, false⟩ : Cl)) L (loP f) (hiP L.length t) hT)
    have HP3 := Lib.hid (fun W h => clean_any A1 c1 L size f t (by have := HM.out; omega) W h)
    have HQ3 := Lib.hid (fun W h => (by
      have := refEach_any 2 (cleanC 32) (⟨xg, xr, xk⟩ : Cl) (.slice none 0 0) A c L size f t (by have := HM.out; omega) W h (fun y _ V _ => refClean1_any y (⟨xg, xr, xk⟩ : Cl) (.slice none 0 0) V)
      rw [each_upd _ _ _ _ hT] at this
      exact this : Calls Tryd.prog 8 #[.int .i64 2, lineV A L.length c size, .int .i64 f, .int .i64 t, ((⟨xg, xr, xk⟩ : Cl)).val, .slice none 0 0] W fun e w' => ∃ A c, e = .returned (lineV A L.length c size) ∧ OCells w' (W.heap.size + 3) (.slice A L.length c) (eachP (cleanC 32) L (loP f) (hiP L.length t - loP f)) ∧ Below W.heap.size W w'))
    have HE3 := Lib.hid (eachP_size (cleanC 32) L (loP f) (hiP L.length t) hT)
    have HP4 := Lib.hid (fun W h (tW : Tab W) (nW : RInts W (some ⟨bp, 0, none⟩) [q, (wrap64 xr).tmod 10]) => change_any A1 c1 L size f t (by have := HM.out; omega) HOk.out (some ⟨bp, 0, none⟩) 2 [q, (wrap64 xr).tmod 10] (by simp [maxLen]) W h tW nW)
    have HQ4 := Lib.hid (fun W h (nW : RInts W (some ⟨bp, 0, none⟩) [q, (wrap64 xr).tmod 10]) => (by
      have := refEach_any 3 (applyC [q, (wrap64 xr).tmod 10]) (⟨xg, xr, xk⟩ : Cl) (.slice (some ⟨bp, 0, none⟩) 2 2) A c L size f t (by have := HM.out; omega) W h (fun y hy V hb => refApply1_any y (⟨xg, xr, xk⟩ : Cl) (HOk.out y hy).2 (some ⟨bp, 0, none⟩) 2 [q, (wrap64 xr).tmod 10] (by simp [maxLen]) V (nW.next hb))
      rw [each_upd _ _ _ _ hT] at this
      exact this : Calls Tryd.prog 8 #[.int .i64 3, lineV A L.length c size, .int .i64 f, .int .i64 t, ((⟨xg, xr, xk⟩ : Cl)).val, .slice (some ⟨bp, 0, none⟩) 2 2] W fun e w' => ∃ A c, e = .returned (lineV A L.length c size) ∧ OCells w' (W.heap.size + 3) (.slice A L.length c) (eachP (applyC [q, (wrap64 xr).tmod 10]) L (loP f) (hiP L.length t - loP f)) ∧ Below W.heap.size W w'))
    have HE4 := Lib.hid (eachP_size (applyC [q, (wrap64 xr).tmod 10]) L (loP f) (hiP L.length t) hT)
    have HP5 := Lib.hid (fun W h (tW : Tab W) (nW : RInts W (some ⟨bp, 0, none⟩) [q, (wrap64 xr).tmod 10]) => flipAll_any A1 c1 L size f t (by have := HM.out; omega) HOk.out (some ⟨bp, 0, none⟩) 2 [q, (wrap64 xr).tmod 10] (by simp [maxLen]) W h tW nW)
    have HQ5 := Lib.hid (fun W h (nW : RInts W (some ⟨bp, 0, none⟩) [q, (wrap64 xr).tmod 10]) => (by
      have := refEach_any 4 (flipC [q, (wrap64 xr).tmod 10]) (⟨xg, xr, xk⟩ : Cl) (.slice (some ⟨bp, 0, none⟩) 2 2) A c L size f t (by have := HM.out; omega) W h (fun y hy V hb => refFlip1_any y (⟨xg, xr, xk⟩ : Cl) (HOk.out y hy).2 (some ⟨bp, 0, none⟩) 2 [q, (wrap64 xr).tmod 10] (by simp [maxLen]) V (nW.next hb))
      rw [each_upd _ _ _ _ hT] at this
      exact this : Calls Tryd.prog 8 #[.int .i64 4, lineV A L.length c size, .int .i64 f, .int .i64 t, ((⟨xg, xr, xk⟩ : Cl)).val, .slice (some ⟨bp, 0, none⟩) 2 2] W fun e w' => ∃ A c, e = .returned (lineV A L.length c size) ∧ OCells w' (W.heap.size + 3) (.slice A L.length c) (eachP (flipC [q, (wrap64 xr).tmod 10]) L (loP f) (hiP L.length t - loP f)) ∧ Below W.heap.size W w'))
    have HE5 := Lib.hid (eachP_size (flipC [q, (wrap64 xr).tmod 10]) L (loP f) (hiP L.length t) hT)
    have HP6 := Lib.hid (fun W h => keep_any A1 c1 L size f t xk (by have := HM.out; omega) W h)
    have HQ6 := Lib.hid (fun W h => (by
      have := refEach_any 5 (keepC xk) (⟨xg, xr, xk⟩ : Cl) (.slice none 0 0) A c L size f t (by have := HM.out; omega) W h (fun y _ V _ => refKeep1_any y (⟨xg, xr, xk⟩ : Cl) (.slice none 0 0) V)
      rw [each_upd _ _ _ _ hT] at this
      exact this : Calls Tryd.prog 8 #[.int .i64 5, lineV A L.length c size, .int .i64 f, .int .i64 t, ((⟨xg, xr, xk⟩ : Cl)).val, .slice none 0 0] W fun e w' => ∃ A c, e = .returned (lineV A L.length c size) ∧ OCells w' (W.heap.size + 3) (.slice A L.length c) (eachP (keepC xk) L (loP f) (hiP L.length t - loP f)) ∧ Below W.heap.size W w'))
    have HE6 := Lib.hid (eachP_size (keepC xk) L (loP f) (hiP L.length t) hT)
    generalize eachP (fun _ => (⟨xg, xr, xk⟩ : Cl)) L (loP f) (hiP L.length t - loP f) = E1 at *
    generalize eachP (fun _ => (⟨32, 0, false⟩ : Cl)) L (loP f) (hiP L.length t - loP f) = E2 at *
    generalize eachP (cleanC 32) L (loP f) (hiP L.length t - loP f) = E3 at *
    generalize eachP (applyC [q, (wrap64 xr).tmod 10]) L (loP f) (hiP L.length t - loP f) = E4 at *
    generalize eachP (flipC [q, (wrap64 xr).tmod 10]) L (loP f) (hiP L.length t - loP f) = E5 at *
    generalize eachP (keepC xk) L (loP f) (hiP L.length t - loP f) = E6 at *
    unfold lineV at HP1 HP2 HP3 HP4 HP5 HP6; unfold Cl.val at HP1; unfold lineV Cl.val at HQ1 HQ2 HQ3 HQ4 HQ5 HQ6
    clear hT
    have HTW := Lib.hid (fun w' (h : Only [] W4 w') => HT.out.next (HK4.out.2.2.2.trans (h.below0.mono HK4.out.2.2.2.size)))
    have HC := Lib.hid (fun w' (h : Only [] W4 w') => And.intro (KE.all (KE.only HK4.out h)) (cells2 (HB4.out.next h.below0)))
    refine wp_region_mix_lit (by kernel_rfl) [(6, .letter (LnP L.length size) (LnF W4.heap.size E1 size)), (13, .letter (LnP L.length size) (LnF W4.heap.size E1 size)), (14, .letter PrP (PrF W4.heap.size E1 size)), (20, .letter (LnP L.length size) (LnF W4.heap.size E2 size)), (27, .letter (LnP L.length size) (LnF W4.heap.size E2 size)), (28, .letter PrP (PrF W4.heap.size E2 size)), (34, .letter (LnP L.length size) (LnF W4.heap.size E3 size)), (41, .letter (LnP L.length size) (LnF W4.heap.size E3 size)), (42, .letter PrP (PrF W4.heap.size E3 size)), (49, .letter (LnP L.length size) (LnF W4.heap.size E4 size)), (57, .letter (LnP L.length size) (LnF W4.heap.size E4 size)), (58, .letter PrP (PrF W4.heap.size E4 size)), (65, .letter (LnP L.length size) (LnF W4.heap.size E5 size)), (73, .letter (LnP L.length size) (LnF W4.heap.size E5 size)), (74, .letter PrP (PrF W4.heap.size E5 size)), (82, .letter (LnP L.length size) (LnF W4.heap.size E6 size)), (89, .letter (LnP L.length size) (LnF W4.heap.size E6 size)), (90, .letter PrP (PrF W4.heap.size E6 size)), (91, .letter PsP (PsF W4.heap.size [E1, E2, E3, E4, E5, E6] size))] (by kernel_rfl) (by kernel_rfl) (by kernel_rfl) (by rfl) (by simp [apartK] <;> omega) (by simp [startK]) (by simp only [List.forall_mem_cons, stabK]; exact ⟨lnF_stab _ _ _ _ (by simp [boxes, Kind.boxed]), lnF_stab _ _ _ _ (by simp [boxes, Kind.boxed]), prF_stab _ _ _ _ rfl, lnF_stab _ _ _ _ (by simp [boxes, Kind.boxed]), lnF_stab _ _ _ _ (by simp [boxes, Kind.boxed]), prF_stab _ _ _ _ rfl, lnF_stab _ _ _ _ (by simp [boxes, Kind.boxed]), lnF_stab _ _ _ _ (by simp [boxes, Kind.boxed]), prF_stab _ _ _ _ rfl, lnF_stab _ _ _ _ (by simp [boxes, Kind.boxed]), lnF_stab _ _ _ _ (by simp [boxes, Kind.boxed]), prF_stab _ _ _ _ rfl, lnF_stab _ _ _ _ (by simp [boxes, Kind.boxed]), lnF_stab _ _ _ _ (by simp [boxes, Kind.boxed]), prF_stab _ _ _ _ rfl, lnF_stab _ _ _ _ (by simp [boxes, Kind.boxed]), lnF_stab _ _ _ _ (by simp [boxes, Kind.boxed]), prF_stab _ _ _ _ rfl, psF_stab _ _ _ _ rfl, by simp⟩) (⟨fun i => if i = 91 then .slice (some ⟨0, 0, none⟩) 6 6 else if i = 14 then .slice (some ⟨0, 0, none⟩) 2 2 else if i = 28 then .slice (some ⟨0, 0, none⟩) 2 2 else if i = 42 then .slice (some ⟨0, 0, none⟩) 2 2 else if i = 58 then .slice (some ⟨0, 0, none⟩) 2 2 else if i = 74 then .slice (some ⟨0, 0, none⟩) 2 2 else if i = 90 then .slice (some ⟨0, 0, none⟩) 2 2 else lineV none L.length L.length size, by simp only [List.forall_mem_cons, okK]; exact ⟨⟨none, _, rfl, Nat.le_refl _⟩, ⟨none, _, rfl, Nat.le_refl _⟩, ⟨0, rfl⟩, ⟨none, _, rfl, Nat.le_refl _⟩, ⟨none, _, rfl, Nat.le_refl _⟩, ⟨0, rfl⟩, ⟨none, _, rfl, Nat.le_refl _⟩, ⟨none, _, rfl, Nat.le_refl _⟩, ⟨0, rfl⟩, ⟨none, _, rfl, Nat.le_refl _⟩, ⟨none, _, rfl, Nat.le_refl _⟩, ⟨0, rfl⟩, ⟨none, _, rfl, Nat.le_refl _⟩, ⟨none, _, rfl, Nat.le_refl _⟩, ⟨0, rfl⟩, ⟨none, _, rfl, Nat.le_refl _⟩, ⟨none, _, rfl, Nat.le_refl _⟩, ⟨0, rfl⟩, ⟨0, rfl⟩, by simp⟩⟩) (fun β hβ => ?_)
    obtain ⟨Ap0, cp0, ep0, _⟩ := (hβ 6 : LnP L.length size (β 6))
    obtain ⟨Aq0, cq0, eq0, _⟩ := (hβ 13 : LnP L.length size (β 13))
    obtain ⟨gs0, es0⟩ := (hβ 14 : PrP (β 14))
    obtain ⟨Ap1, cp1, ep1, _⟩ := (hβ 20 : LnP L.length size (β 20))
    obtain ⟨Aq1, cq1, eq1, _⟩ := (hβ 27 : LnP L.length size (β 27))
    obtain ⟨gs1, es1⟩ := (hβ 28 : PrP (β 28))
    obtain ⟨Ap2, cp2, ep2, _⟩ := (hβ 34 : LnP L.length size (β 34))
    obtain ⟨Aq2, cq2, eq2, _⟩ := (hβ 41 : LnP L.length size (β 41))
    obtain ⟨gs2, es2⟩ := (hβ 42 : PrP (β 42))
    obtain ⟨Ap3, cp3, ep3, _⟩ := (hβ 49 : LnP L.length size (β 49))
    obtain ⟨Aq3, cq3, eq3, _⟩ := (hβ 57 : LnP L.length size (β 57))
    obtain ⟨gs3, es3⟩ := (hβ 58 : PrP (β 58))
    obtain ⟨Ap4, cp4, ep4, _⟩ := (hβ 65 : LnP L.length size (β 65))
    obtain ⟨Aq4, cq4, eq4, _⟩ := (hβ 73 : LnP L.length size (β 73))
    obtain ⟨gs4, es4⟩ := (hβ 74 : PrP (β 74))
    obtain ⟨Ap5, cp5, ep5, _⟩ := (hβ 82 : LnP L.length size (β 82))
    obtain ⟨Aq5, cq5, eq5, _⟩ := (hβ 89 : LnP L.length size (β 89))
    obtain ⟨gs5, es5⟩ := (hβ 90 : PrP (β 90))
    obtain ⟨go, eo⟩ := (hβ 91 : PsP (β 91))
    unfold lineV at ep0 eq0 ep1 eq1 ep2 eq2 ep3 eq3 ep4 eq4 ep5 eq5
    repeat (
      refine lex_val (v := ?_) rfl rfl (fun w' hf => ?_) ?_
      rotate_left
      · obtain ⟨⟨⟨a0, a1⟩, ⟨b0, b1, b2⟩, d0, d1, d2⟩, i0, i1, _, _⟩ := HC.out w' hf.only; go_simp
        try rfl
      try simp only [Act.put, List.setIfInBounds_toArray, List.set_cons_zero, List.set_cons_succ])
    refine lex_letter (f := 7) (args := ?_) rfl rfl (fun w' hf => ?_) (fun w' hf => ?_) ?_
    rotate_left
    · go_simp
      try rfl
    · exact ln_row hf.only.size HE1.out (by rw [← HE1.out]; have := HM.out; omega) (HP1.out w' (HR4.out.next hf.only.below0))
    try simp only [Act.put, List.setIfInBounds_toArray, List.set_cons_zero, List.set_cons_succ]
    repeat (
      refine lex_val (v := ?_) rfl rfl (fun w' hf => ?_) ?_
      rotate_left
      · obtain ⟨⟨⟨a0, a1⟩, ⟨b0, b1, b2⟩, d0, d1, d2⟩, i0, i1, _, _⟩ := HC.out w' hf.only; go_simp
        try rfl
      try simp only [Act.put, List.setIfInBounds_toArray, List.set_cons_zero, List.set_cons_succ])
    refine lex_letter (f := 8) (args := ?_) rfl rfl (fun w' hf => ?_) (fun w' hf => ?_) ?_
    rotate_left
    · go_simp
      try rfl
    · exact ln_own (by have := hf.only.size; omega) HE1.out (HQ1.out w' (HR4l.out.next hf.only.below0))
    try simp only [Act.put, List.setIfInBounds_toArray, List.set_cons_zero, List.set_cons_succ]
    refine lex_made rfl rfl (fun w' hf => ⟨.slice (some ⟨w'.heap.size, 0, none⟩) 2 2, w'.alloc (.cells #[.slice Ap0 L.length cp0, .int .i64 size, .slice Aq0 L.length cq0, .int .i64 size] 24), ?_, ⟨_, rfl⟩, ⟨w'.heap.size, β 6, β 13, rfl, hf.only.size, by rw [ep0, eq0]; exact Blk.new _ _ _, LnF.next (hf.got 6 _ _ rfl (by kernel_rfl)) (al _ _), LnF.next (hf.got 13 _ _ rfl (by kernel_rfl)) (al _ _)⟩, al _ _⟩) ?_
    · go_simp
    try simp only [Act.put, List.setIfInBounds_toArray, List.set_cons_zero, List.set_cons_succ]
    repeat (
      refine lex_val (v := ?_) rfl rfl (fun w' hf => ?_) ?_
      rotate_left
      · obtain ⟨⟨⟨a0, a1⟩, ⟨b0, b1, b2⟩, d0, d1, d2⟩, i0, i1, _, _⟩ := HC.out w' hf.only; go_simp
        try rfl
      try simp only [Act.put, List.setIfInBounds_toArray, List.set_cons_zero, List.set_cons_succ])
    refine lex_letter (f := 9) (args := ?_) rfl rfl (fun w' hf => ?_) (fun w' hf => ?_) ?_
    rotate_left
    · go_simp
      try rfl
    · exact ln_own (by have := hf.only.size; omega) HE2.out (HP2.out w' (HR4.out.next hf.only.below0))
    try simp only [Act.put, List.setIfInBounds_toArray, List.set_cons_zero, List.set_cons_succ]
    repeat (
      refine lex_val (v := ?_) rfl rfl (fun w' hf => ?_) ?_
      rotate_left
      · obtain ⟨⟨⟨a0, a1⟩, ⟨b0, b1, b2⟩, d0, d1, d2⟩, i0, i1, _, _⟩ := HC.out w' hf.only; go_simp
        try rfl
      try simp only [Act.put, List.setIfInBounds_toArray, List.set_cons_zero, List.set_cons_succ])
    refine lex_letter (f := 8) (args := ?_) rfl rfl (fun w' hf => ?_) (fun w' hf => ?_) ?_
    rotate_left
    · go_simp
      try rfl
    · exact ln_own (by have := hf.only.size; omega) HE2.out (HQ2.out w' (HR4l.out.next hf.only.below0))
    try simp only [Act.put, List.setIfInBounds_toArray, List.set_cons_zero, List.set_cons_succ]
    refine lex_made rfl rfl (fun w' hf => ⟨.slice (some ⟨w'.heap.size, 0, none⟩) 2 2, w'.alloc (.cells #[.slice Ap1 L.length cp1, .int .i64 size, .slice Aq1 L.length cq1, .int .i64 size] 24), ?_, ⟨_, rfl⟩, ⟨w'.heap.size, β 20, β 27, rfl, hf.only.size, by rw [ep1, eq1]; exact Blk.new _ _ _, LnF.next (hf.got 20 _ _ rfl (by kernel_rfl)) (al _ _), LnF.next (hf.got 27 _ _ rfl (by kernel_rfl)) (al _ _)⟩, al _ _⟩) ?_
    · go_simp
    try simp only [Act.put, List.setIfInBounds_toArray, List.set_cons_zero, List.set_cons_succ]
    repeat (
      refine lex_val (v := ?_) rfl rfl (fun w' hf => ?_) ?_
      rotate_left
      · obtain ⟨⟨⟨a0, a1⟩, ⟨b0, b1, b2⟩, d0, d1, d2⟩, i0, i1, _, _⟩ := HC.out w' hf.only; go_simp
        try rfl
      try simp only [Act.put, List.setIfInBounds_toArray, List.set_cons_zero, List.set_cons_succ])
    refine lex_letter (f := 10) (args := ?_) rfl rfl (fun w' hf => ?_) (fun w' hf => ?_) ?_
    rotate_left
    · go_simp
      try rfl
    · exact ln_own (by have := hf.only.size; omega) HE3.out (HP3.out w' (HR4.out.next hf.only.below0))
    try simp only [Act.put, List.setIfInBounds_toArray, List.set_cons_zero, List.set_cons_succ]
    repeat (
      refine lex_val (v := ?_) rfl rfl (fun w' hf => ?_) ?_
      rotate_left
      · obtain ⟨⟨⟨a0, a1⟩, ⟨b0, b1, b2⟩, d0, d1, d2⟩, i0, i1, _, _⟩ := HC.out w' hf.only; go_simp
        try rfl
      try simp only [Act.put, List.setIfInBounds_toArray, List.set_cons_zero, List.set_cons_succ])
    refine lex_letter (f := 8) (args := ?_) rfl rfl (fun w' hf => ?_) (fun w' hf => ?_) ?_
    rotate_left
    · go_simp
      try rfl
    · exact ln_own (by have := hf.only.size; omega) HE3.out (HQ3.out w' (HR4l.out.next hf.only.below0))
    try simp only [Act.put, List.setIfInBounds_toArray, List.set_cons_zero, List.set_cons_succ]
    refine lex_made rfl rfl (fun w' hf => ⟨.slice (some ⟨w'.heap.size, 0, none⟩) 2 2, w'.alloc (.cells #[.slice Ap2 L.length cp2, .int .i64 size, .slice Aq2 L.length cq2, .int .i64 size] 24), ?_, ⟨_, rfl⟩, ⟨w'.heap.size, β 34, β 41, rfl, hf.only.size, by rw [ep2, eq2]; exact Blk.new _ _ _, LnF.next (hf.got 34 _ _ rfl (by kernel_rfl)) (al _ _), LnF.next (hf.got 41 _ _ rfl (by kernel_rfl)) (al _ _)⟩, al _ _⟩) ?_
    · go_simp
    try simp only [Act.put, List.setIfInBounds_toArray, List.set_cons_zero, List.set_cons_succ]
    repeat (
      refine lex_val (v := ?_) rfl rfl (fun w' hf => ?_) ?_
      rotate_left
      · obtain ⟨⟨⟨a0, a1⟩, ⟨b0, b1, b2⟩, d0, d1, d2⟩, i0, i1, _, _⟩ := HC.out w' hf.only; go_simp
        try rfl
      try simp only [Act.put, List.setIfInBounds_toArray, List.set_cons_zero, List.set_cons_succ])
    refine lex_letter (f := 11) (args := ?_) rfl rfl (fun w' hf => ?_) (fun w' hf => ?_) ?_
    rotate_left
    · go_simp
      try rfl
    · exact ln_row hf.only.size HE4.out (by rw [← HE4.out]; have := HM.out; omega) (HP4.out w' (HR4.out.next hf.only.below0) (HTW.out w' hf.only) (HNs.out.next hf.only.below0))
    try simp only [Act.put, List.setIfInBounds_toArray, List.set_cons_zero, List.set_cons_succ]
    repeat (
      refine lex_val (v := ?_) rfl rfl (fun w' hf => ?_) ?_
      rotate_left
      · obtain ⟨⟨⟨a0, a1⟩, ⟨b0, b1, b2⟩, d0, d1, d2⟩, i0, i1, _, _⟩ := HC.out w' hf.only; go_simp
        try rfl
      try simp only [Act.put, List.setIfInBounds_toArray, List.set_cons_zero, List.set_cons_succ])
    refine lex_letter (f := 8) (args := ?_) rfl rfl (fun w' hf => ?_) (fun w' hf => ?_) ?_
    rotate_left
    · go_simp
      try rfl
    · exact ln_own (by have := hf.only.size; omega) HE4.out (HQ4.out w' (HR4l.out.next hf.only.below0) (HNs.out.next hf.only.below0))
    try simp only [Act.put, List.setIfInBounds_toArray, List.set_cons_zero, List.set_cons_succ]
    refine lex_made rfl rfl (fun w' hf => ⟨.slice (some ⟨w'.heap.size, 0, none⟩) 2 2, w'.alloc (.cells #[.slice Ap3 L.length cp3, .int .i64 size, .slice Aq3 L.length cq3, .int .i64 size] 24), ?_, ⟨_, rfl⟩, ⟨w'.heap.size, β 49, β 57, rfl, hf.only.size, by rw [ep3, eq3]; exact Blk.new _ _ _, LnF.next (hf.got 49 _ _ rfl (by kernel_rfl)) (al _ _), LnF.next (hf.got 57 _ _ rfl (by kernel_rfl)) (al _ _)⟩, al _ _⟩) ?_
    · go_simp
    try simp only [Act.put, List.setIfInBounds_toArray, List.set_cons_zero, List.set_cons_succ]
    repeat (
      refine lex_val (v := ?_) rfl rfl (fun w' hf => ?_) ?_
      rotate_left
      · obtain ⟨⟨⟨a0, a1⟩, ⟨b0, b1, b2⟩, d0, d1, d2⟩, i0, i1, _, _⟩ := HC.out w' hf.only; go_simp
        try rfl
      try simp only [Act.put, List.setIfInBounds_toArray, List.set_cons_zero, List.set_cons_succ])
    refine lex_letter (f := 12) (args := ?_) rfl rfl (fun w' hf => ?_) (fun w' hf => ?_) ?_
    rotate_left
    · go_simp
      try rfl
    · exact ln_row hf.only.size HE5.out (by rw [← HE5.out]; have := HM.out; omega) (HP5.out w' (HR4.out.next hf.only.below0) (HTW.out w' hf.only) (HNs.out.next hf.only.below0))
    try simp only [Act.put, List.setIfInBounds_toArray, List.set_cons_zero, List.set_cons_succ]
    repeat (
      refine lex_val (v := ?_) rfl rfl (fun w' hf => ?_) ?_
      rotate_left
      · obtain ⟨⟨⟨a0, a1⟩, ⟨b0, b1, b2⟩, d0, d1, d2⟩, i0, i1, _, _⟩ := HC.out w' hf.only; go_simp
        try rfl
      try simp only [Act.put, List.setIfInBounds_toArray, List.set_cons_zero, List.set_cons_succ])
    refine lex_letter (f := 8) (args := ?_) rfl rfl (fun w' hf => ?_) (fun w' hf => ?_) ?_
    rotate_left
    · go_simp
      try rfl
    · exact ln_own (by have := hf.only.size; omega) HE5.out (HQ5.out w' (HR4l.out.next hf.only.below0) (HNs.out.next hf.only.below0))
    try simp only [Act.put, List.setIfInBounds_toArray, List.set_cons_zero, List.set_cons_succ]
    refine lex_made rfl rfl (fun w' hf => ⟨.slice (some ⟨w'.heap.size, 0, none⟩) 2 2, w'.alloc (.cells #[.slice Ap4 L.length cp4, .int .i64 size, .slice Aq4 L.length cq4, .int .i64 size] 24), ?_, ⟨_, rfl⟩, ⟨w'.heap.size, β 65, β 73, rfl, hf.only.size, by rw [ep4, eq4]; exact Blk.new _ _ _, LnF.next (hf.got 65 _ _ rfl (by kernel_rfl)) (al _ _), LnF.next (hf.got 73 _ _ rfl (by kernel_rfl)) (al _ _)⟩, al _ _⟩) ?_
    · go_simp
    try simp only [Act.put, List.setIfInBounds_toArray, List.set_cons_zero, List.set_cons_succ]
    repeat (
      refine lex_val (v := ?_) rfl rfl (fun w' hf => ?_) ?_
      rotate_left
      · obtain ⟨⟨⟨a0, a1⟩, ⟨b0, b1, b2⟩, d0, d1, d2⟩, i0, i1, _, _⟩ := HC.out w' hf.only; go_simp
        try rfl
      try simp only [Act.put, List.setIfInBounds_toArray, List.set_cons_zero, List.set_cons_succ])
    refine lex_letter (f := 13) (args := ?_) rfl rfl (fun w' hf => ?_) (fun w' hf => ?_) ?_
    rotate_left
    · go_simp
      try rfl
    · exact ln_row hf.only.size HE6.out (by rw [← HE6.out]; have := HM.out; omega) (HP6.out w' (HR4.out.next hf.only.below0))
    try simp only [Act.put, List.setIfInBounds_toArray, List.set_cons_zero, List.set_cons_succ]
    repeat (
      refine lex_val (v := ?_) rfl rfl (fun w' hf => ?_) ?_
      rotate_left
      · obtain ⟨⟨⟨a0, a1⟩, ⟨b0, b1, b2⟩, d0, d1, d2⟩, i0, i1, _, _⟩ := HC.out w' hf.only; go_simp
        try rfl
      try simp only [Act.put, List.setIfInBounds_toArray, List.set_cons_zero, List.set_cons_succ])
    refine lex_letter (f := 8) (args := ?_) rfl rfl (fun w' hf => ?_) (fun w' hf => ?_) ?_
    rotate_left
    · go_simp
      try rfl
    · exact ln_own (by have := hf.only.size; omega) HE6.out (HQ6.out w' (HR4l.out.next hf.only.below0))
    try simp only [Act.put, List.setIfInBounds_toArray, List.set_cons_zero, List.set_cons_succ]
    refine lex_made rfl rfl (fun w' hf => ⟨.slice (some ⟨w'.heap.size, 0, none⟩) 2 2, w'.alloc (.cells #[.slice Ap5 L.length cp5, .int .i64 size, .slice Aq5 L.length cq5, .int .i64 size] 24), ?_, ⟨_, rfl⟩, ⟨w'.heap.size, β 82, β 89, rfl, hf.only.size, by rw [ep5, eq5]; exact Blk.new _ _ _, LnF.next (hf.got 82 _ _ rfl (by kernel_rfl)) (al _ _), LnF.next (hf.got 89 _ _ rfl (by kernel_rfl)) (al _ _)⟩, al _ _⟩) ?_
    · go_simp
    try simp only [Act.put, List.setIfInBounds_toArray, List.set_cons_zero, List.set_cons_succ]
    refine lex_made rfl rfl (fun w' hf => ⟨.slice (some ⟨w'.heap.size, 0, none⟩) 6 6, w'.alloc (.cells #[.slice (some ⟨gs0, 0, none⟩) 2 2, .slice (some ⟨gs1, 0, none⟩) 2 2, .slice (some ⟨gs2, 0, none⟩) 2 2, .slice (some ⟨gs3, 0, none⟩) 2 2, .slice (some ⟨gs4, 0, none⟩) 2 2, .slice (some ⟨gs5, 0, none⟩) 2 2] 35), ?_, ⟨_, rfl⟩, ⟨w'.heap.size, [β 14, β 28, β 42, β 58, β 74, β 90], rfl, hf.only.size, rfl, by rw [es0, es1, es2, es3, es4, es5]; exact Blk.new _ _ _, ?_⟩, al _ _⟩) ?_
    · go_simp
    · intro i s E h1 h2
      match i with
      | 0 => obtain rfl := Option.some.inj h1; obtain rfl := Option.some.inj h2; exact PrF.next (hf.got 14 _ _ rfl (by kernel_rfl)) (al _ _)
      | 1 => obtain rfl := Option.some.inj h1; obtain rfl := Option.some.inj h2; exact PrF.next (hf.got 28 _ _ rfl (by kernel_rfl)) (al _ _)
      | 2 => obtain rfl := Option.some.inj h1; obtain rfl := Option.some.inj h2; exact PrF.next (hf.got 42 _ _ rfl (by kernel_rfl)) (al _ _)
      | 3 => obtain rfl := Option.some.inj h1; obtain rfl := Option.some.inj h2; exact PrF.next (hf.got 58 _ _ rfl (by kernel_rfl)) (al _ _)
      | 4 => obtain rfl := Option.some.inj h1; obtain rfl := Option.some.inj h2; exact PrF.next (hf.got 74 _ _ rfl (by kernel_rfl)) (al _ _)
      | 5 => obtain rfl := Option.some.inj h1; obtain rfl := Option.some.inj h2; exact PrF.next (hf.got 90 _ _ rfl (by kernel_rfl)) (al _ _)
      | n + 6 => simp at h1
    try simp only [Act.put, List.setIfInBounds_toArray, List.set_cons_zero, List.set_cons_succ]
    repeat (
      refine lex_val (v := ?_) rfl rfl (fun w' hf => ?_) ?_
      rotate_left
      · go_simp
        try rfl
      try simp only [Act.put, List.setIfInBounds_toArray, List.set_cons_zero, List.set_cons_succ])
    refine lex_nil fun w5 he => ?_
    have hps : PsF W4.heap.size [E1, E2, E3, E4, E5, E6] size (β 91) w5 := (he.facts 91).2
    have HK5 := Lib.hid (And.intro (KE.only HK4.out he.only) (And.intro (HB4.out.next he.only.below0) (And.intro (HR4.out.next he.only.below0) (HR4l.out.next he.only.below0))))
    generalize W4.heap.size = B4 at *
    obtain ⟨g, ss, eg, _, hss, hgb, hall⟩ := hps
    have HLs : Hid (∀ (i : Nat) (E : List Cl), [E1, E2, E3, E4, E5, E6][i]? = some E → L.length = E.length) := Lib.hid (by
      intro i E h
      match i with
      | 0 => obtain rfl := Option.some.inj h; exact HE1.out
      | 1 => obtain rfl := Option.some.inj h; exact HE2.out
      | 2 => obtain rfl := Option.some.inj h; exact HE3.out
      | 3 => obtain rfl := Option.some.inj h; exact HE4.out
      | 4 => obtain rfl := Option.some.inj h; exact HE5.out
      | 5 => obtain rfl := Option.some.inj h; exact HE6.out
      | n + 6 => simp at h)
    have HLn : Hid ([E1, E2, E3, E4, E5, E6].length = 6) := Lib.hid rfl
    have hgg : g = go := by have := eo.symm.trans eg; simp at this; exact this.symm
    subst hgg
    have HG := Lib.hid hgb; have HAll := Lib.hid hall; have HSs := Lib.hid hss
    clear he hβ hgb hall hss eg ep0 eq0 es0 ep1 eq1 es1 ep2 eq2 es2 ep3 eq3 es3 ep4 eq4 es4 ep5 eq5 es5 HC HTW HP1 HP2 HP3 HP4 HP5 HP6 HQ1 HQ2 HQ3 HQ4 HQ5 HQ6 HE1 HE2 HE3 HE4 HE5 HE6 HNs HK4 HB4 HR4 HR4l
    generalize [E1, E2, E3, E4, E5, E6] = Es at *
    clear E1 E2 E3 E4 E5 E6
    clear eo
    go_wp2_with fail
    go_loopw [123] (fun i wr => ∃ k : Nat, k ≤ 6 ∧ i = .int .i64 k ∧ Below w5.heap.size w5 wr) (fun i _ => 6 - (intOf i).toNat)
    case atStart => exact ⟨0, by omega, rfl, Below.refl _ _⟩
    case round =>
      obtain ⟨k, hk, rfl, hbr⟩ := hrel
      have HBr := Lib.hid hbr
      clear hbr
      by_cases hlt : k < 6
      · have hks : ss[k]? = some (ss[k]'(by rw [HSs.out]; exact hlt)) := List.getElem?_eq_getElem _
        have hke : Es[k]? = some (Es[k]'(by rw [HLn.out]; exact hlt)) := List.getElem?_eq_getElem _
        obtain ⟨g2, v1, v2, e2, _, hb2, hv1, hv2⟩ := HAll.out k _ _ hks hke
        have hlE := HLs.out k _ hke
        rw [e2] at hks
        have hcl := (HG.out.next HBr.out).cell k
        rw [List.getElem?_toArray, hks] at hcl
        clear hks hke e2
        generalize Es[k]'(by rw [HLn.out]; exact hlt) = E at *
        obtain ⟨P1, p1, rfl, hr1⟩ := hv1.as
        obtain ⟨P2, p2, rfl, hr2⟩ := hv2.as
        rw [← hlE] at hb2
        have HB2 : Hid (Blk w5 g2 24 #[.slice P1 L.length p1, .int .i64 size, .slice P2 L.length p2, .int .i64 size]) := Lib.hid hb2
        have HSm := Lib.hid (fun W (h1 : RCells W P1 E) (h2 : RCells W P2 E) => (by
          have := refSame_any P1 P2 p1 p2 E E size size (by rw [← hlE]; have := HM.out; unfold maxLen; omega) (by rw [← hlE]; have := HM.out; unfold maxLen; omega) W h1 h2
          rw [show decide (size = size ∧ E = E) = true from by simp, ← hlE] at this
          exact this : Calls Tryd.prog 14 #[lineV P1 L.length p1 size, lineV P2 L.length p2 size] W fun e w' => e = .returned (.bool true) ∧ Below W.heap.size W w'))
        unfold lineV at HSm
        have HR1 := Lib.hid hr1; have HR2 := Lib.hid hr2
        clear hb2 hv1 hv2 hr1 hr2 hlE
        have HC := Lib.hid (fun w' (h : Only [] wr w') => (HB2.out.next HBr.out).next h.below0)
        go_upto_region 12 with fail
        clear hcl
        refine wp_region_mix_lit (by kernel_rfl) [(6, .call (.bool true))] (by kernel_rfl) (by kernel_rfl) (by kernel_rfl) (by rfl) (by simp [apartK] <;> omega) (by simp [startK]) (by simp [stabK]) (⟨fun _ => undef, by simp [okK]⟩) (fun β hβ => ?_)
        repeat (
          refine lex_val (v := ?_) rfl rfl (fun w' hf => ?_) ?_
          rotate_left
          · obtain hB := HC.out w' hf.only; have y0 := hB.cell 0; have y1 := hB.cell 1; have y2 := hB.cell 2; have y3 := hB.cell 3; simp only [List.getElem?_toArray, List.getElem?_cons_zero, List.getElem?_cons_succ] at y0 y1 y2 y3; go_simp
            try rfl
          try simp only [Act.put, List.setIfInBounds_toArray, List.set_cons_zero, List.set_cons_succ])
        refine lex_call (f := 14) (args := ?_) rfl rfl (fun w' hf => ?_) (fun w' hf => ?_) ?_
        rotate_left
        · go_simp
          try rfl
        · exact HSm.out w' ((HR1.out.next HBr.out).next hf.only.below0) ((HR2.out.next HBr.out).next hf.only.below0)
        try simp only [Act.put, List.setIfInBounds_toArray, List.set_cons_zero, List.set_cons_succ]
        repeat (
          refine lex_val (v := ?_) rfl rfl (fun w' hf => ?_) ?_
          rotate_left
          · go_simp
            try rfl
          try simp only [Act.put, List.setIfInBounds_toArray, List.set_cons_zero, List.set_cons_succ])
        refine lex_nil fun w6 he => ?_
        have HBn := Lib.hid (HBr.out.trans (he.only.below0.mono HBr.out.size))
        clear he
        go_wp2_with fail
        go_roundw
        case rel => exact ⟨k + 1, by omega, by go_num, HBn.out⟩
        case measure => simp [intOf]; omega
      · obtain rfl : k = 6 := by omega
        have HSm := Lib.hid (fun W (h1 : RCells W A1 L) (h2 : RCells W A L) => (by
          have := refSame_any A1 A c1 c L L size size (by have := HM.out; unfold maxLen; omega) (by have := HM.out; unfold maxLen; omega) W h1 h2
          rw [show decide (size = size ∧ L = L) = true from by simp] at this
          exact this : Calls Tryd.prog 14 #[lineV A1 L.length c1 size, lineV A L.length c size] W fun e w' => e = .returned (.bool true) ∧ Below W.heap.size W w'))
        unfold lineV at HSm
        have HK6 := Lib.hid (KE.next HK5.out.1 HBr.out)
        obtain ⟨⟨a0, a1⟩, _, _⟩ := KE.all HK6.out
        obtain ⟨i0, i1, _, _⟩ := cells2 (HK5.out.2.1.next HBr.out)
        go_wp2_with fail
        refine (HSm.out _ (HK5.out.2.2.1.next HBr.out) (HK5.out.2.2.2.next HBr.out)).mono ?_
        rintro e w7 ⟨rfl, hb7⟩
        have hb8 := HK6.out.2.2.2.trans (hb7.mono HK6.out.2.2.2.size)
        clear hb7
        go_wp2_with fail
        go_ret
        exact ⟨rfl, hb8⟩

set_option maxRecDepth 100000 in
/-- What the walk gives, for every argument and every world that holds the table. -/
theorem contract (H : Type) (enc : TypeId × Value → H) (W : World) (base : Nat) (args : Array Value) (ds gs : List (DataW H)) (before : List MemPlace)
    (hval : ∀ (j : Nat) t v, Tryd.f3.params[j]? = some t → args[j]? = some v → Value.okWide Tryd.prog W .any base t v)
    (hW : DataW.Whole enc Tryd.prog Tryd.f3.params.toList Rows.lineEachSpec.vars false W args.toList ds gs before) (hL : laidMetH Tryd.prog Rows.lineEachRow.laid W)
    (hreach : (DataW.weightsEach Tryd.prog (Tryd.f3.params.toList ++ []) (ds ++ gs)).all (· ≤ reachBytes) = true) :
    Calls Tryd.prog 3 args W fun e W' => ∃ v, e = .returned v ∧ Rows.lineEachSpec.post enc Tryd.prog Tryd.f3 false true false false W args v W' := by
  have hW' := hW
  have ht := tab_of hL
  have hlts : ∀ x ∈ before, x.block < W.heap.size := fun x hx => hW'.lt x hx
  obtain ⟨p, q, hA0, hV, rfl, hfz, hnd⟩ := hW
  have hA : DataW.TrodAll enc Tryd.prog W 0 (fun _ => true) true Tryd.f3.params.toList args.toList ds p := hA0
  rw [Tryd.params3] at hA hval hreach
  obtain ⟨v0, vs0, d0, ds0, pp0, qq0, hargs, rfl, rfl, h0, rr0⟩ := trodAll_cons hA
  obtain ⟨v1, vs1, d1, ds1, pp1, qq1, rfl, rfl, rfl, h1, rr1⟩ := trodAll_cons rr0
  obtain ⟨v2, vs2, d2, ds2, pp2, qq2, rfl, rfl, rfl, h2, rr2⟩ := trodAll_cons rr1
  obtain ⟨rfl, rfl, rfl⟩ := trodAll_nil rr2
  obtain rfl : args = #[v0, v1, v2] := by cases args; simp_all
  obtain ⟨rfl, rfl⟩ := trodVars_none hV
  obtain ⟨b0, cap0, l0, z0, rfl, hm0, hc0, ok0, hri0⟩ := line_in2 (hval 0 24 v0 rfl rfl) h0
  obtain ⟨f1, t1, q1, rfl⟩ := span_in (hval 1 26 v1 rfl rfl) h1
  obtain ⟨c2, rfl, ok2⟩ := cell_in (hval 2 29 v2 rfl rfl) h2
  clear hA0
  refine (walk b0 cap0 l0 z0 hm0 hc0 ok0 f1 t1 q1 c2 ok2 W ht hri0).mono fun e W' ⟨he, hb⟩ => ?_
  subst he
  exact ⟨_, rfl, post_law laidOut (by kernel_rfl) (by kernel_rfl) rfl hW' rfl hb⟩

set_option maxRecDepth 100000 in
theorem laid_met (os : Os) : laidMet Tryd.prog Rows.lineEachRow.laid ((laidWorld os).forCall (fun _ _ => 0) ⟨#[], #[Value.agg #[.slice none 0 0, .int .i64 0], Value.agg #[.int .i64 0, .int .i64 0, .int .i64 0], Value.agg #[.int .i32 0, .int .u8 0, .bool false]], []⟩).memory :=
  laidMet_of_run' 8 (by kernel_rfl) (by kernel_rfl)
set_option maxRecDepth 100000 in
theorem reads (os : Os) {H : Type} (enc : TypeId × Value → H) : ∃ places, DataW.whole enc Tryd.prog ((laidWorld os).forCall (fun _ _ => 0) ⟨#[], #[Value.agg #[.slice none 0 0, .int .i64 0], Value.agg #[.int .i64 0, .int .i64 0, .int .i64 0], Value.agg #[.int .i32 0, .int .u8 0, .bool false]], []⟩).memory Tryd.f3.params.toList Rows.lineEachSpec.vars false (#[Value.agg #[.slice none 0 0, .int .i64 0], Value.agg #[.int .i64 0, .int .i64 0, .int .i64 0], Value.agg #[.int .i32 0, .int .u8 0, .bool false]] : Array Value).toList 8 = some ([.agg [.nil, .lit (.int .i64 0)], .agg [.lit (.int .i64 0), .lit (.int .i64 0), .lit (.int .i64 0)], .agg [.lit (.int .i32 0), .lit (.int .u8 0), .lit (.bool false)]], [], places) :=
  ⟨[], by kernel_rfl⟩

set_option maxRecDepth 100000 in
theorem lifted (os : Os) (started : os.Started) (H : Type) (enc : TypeId × Value → H) (F : Stop.Interp) :
    ReturnsInHanded {} Tryd.checked os 3 .any ((OpenSpec.ofChange Rows.lineEachSpec).preRow enc Tryd.prog Tryd.f3 Rows.lineEachRow.domain false Rows.lineEachRow.laid) (((OpenSpec.ofChange Rows.lineEachSpec).at F).post enc Tryd.prog Tryd.f3 false true false false) := by
  obtain ⟨places, hx⟩ := reads os enc
  refine returnsInHanded_of_row (C := Tryd.checked) (s := OpenSpec.ofChange Rows.lineEachSpec) own started (by kernel_rfl) Tryd.func3
    (witness_row_at (enc := enc) (C := Tryd.checked) false (laidWorld os) #[Value.agg #[.slice none 0 0, .int .i64 0], Value.agg #[.int .i64 0, .int .i64 0, .int .i64 0], Value.agg #[.int .i32 0, .int .u8 0, .bool false]] rfl (by kernel_rfl) (by kernel_rfl) (by kernel_rfl)
      (OpenSpec.preRow_of_cond 8 hx (by kernel_rfl) (fun k hk => by cases hk) (by kernel_rfl) (laid_met os))) ?_
  intro W base args ds gs before hval hW _ _ hreach hL _ _
  exact contract H enc W base args ds gs before hval hW hL hreach

theorem said : Rows.LineEachSaid :=
  OpenClaim.holds_of_cond 3 Tryd.f3 rfl rfl rfl rfl rfl rfl rfl ⟨rfl, rfl, rfl, rfl, rfl⟩ rfl rfl rfl rfl rfl (by kernel_rfl) Tryd.func3 (by kernel_rfl)
    (of_decide_eq_true (by kernel_rfl)) (by unfold Func.isWrapper; first | (rw [if_pos (by decide +kernel)]; kernel_rfl) | (rw [if_neg (by decide +kernel)]; exact ⟨rfl, rfl⟩))
    (fun os started H enc _ F => by rw [OpenClaim.pre_eq_preRow]; exact lifted os started H enc F)

theorem plain (f : FuncId) (fn : Func) (hf : Tryd.pinned.checked.prog.funcNamed "phosphor/phosphorlaw03.LineEach" = some f) (hfn : Tryd.pinned.checked.prog.funcs[f]? = some fn) :
    false = Tryd.pinned.checked.prog.looks [] ∧ ∀ (j : Nat) t, fn.params[j]? = some t → Tryd.pinned.checked.prog.wantsStandIn t = false := by
  obtain rfl : f = 3 := Option.some.inj ((show Tryd.prog.funcNamed "phosphor/phosphorlaw03.LineEach" = some 3 by kernel_rfl).symm.trans hf) |>.symm
  obtain rfl : fn = Tryd.f3 := (Option.some.inj (Tryd.func3.symm.trans hfn)).symm
  refine ⟨by kernel_rfl, fun j t ht => ?_⟩
  rw [Tryd.params3] at ht
  have hm : t ∈ [24, 26, 29] := by simpa using Array.mem_of_getElem? ht
  have hall : ([24, 26, 29].all fun u => !Tryd.prog.wantsStandIn u) = true := by kernel_rfl
  exact (show Tryd.prog.wantsStandIn t = false by simpa using List.all_eq_true.1 hall t hm)

/-- The card. -/
theorem card : Rows.LineEachCardSaid :=
  Claim7.holds_tied_plain_at .later [] _ _ _ _ said (fun _ h => by cases h) (by kernel_rfl) (fun _ h => by cases h) lineEach_row_tie rfl ⟨rfl, rfl⟩ (by kernel_rfl) rfl plain (by kernel_rfl)
#print axioms card
end Go.Proofs.YtflnjlcdpmmjlaaDoor.lineEach

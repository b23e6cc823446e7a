/-
  PhosphorWeighed holds, whatever the input: the card of the statement, with the table of parts tied to the program's text.
-/
import Derived.Test.YtdjbfnhgendacaaDoorCards
import Derived.Test.YtdjbfnhgendacaaDoorTie
import Derived.Test.YtdjbfnhgendacaaDoorFrameB
import Derived.Test.YtdjbfnhgendacaaDoorFrameC
import Derived.Test.YtdjbfnhgendacaaDoorCellF
import Derived.Test.YtdjbfnhgendacaaDoorRendB
import Derived.Test.YtdjbfnhgendacaaDoorEqParts
import Derived.Test.YtdjbfnhgendacaaDoorCuts
namespace Go.Proofs.YtdjbfnhgendacaaDoor.phosphorWeighed
open Go.ChangeShapes Go.WideShapes Go.ChangeAt Go.RowKit
open Go.ChangeMaps (open_string)

/-- What is known of a world in the midst of the call: the two boxes, and that old memory is as it was. -/
def KP (w : World) (x y : Array Value) (w' : World) : Prop := Blk w' w.heap.size 44 x ∧ Blk w' (w.heap.size + 1) 44 y ∧ Below w.heap.size w w'
theorem KP.next {w W w' : World} {x y : Array Value} (h : KP w x y W) (hb : Below W.heap.size W w') : KP w x y w' := ⟨h.1.next hb, h.2.1.next hb, h.2.2.trans (hb.mono h.2.2.size)⟩
theorem KP.drew {w W : World} {x y : Array Value} (h : KP w x y W) : KP w x y W.drew := ⟨h.1, h.2.1, h.2.2.drew⟩
theorem KP.drewN {w W : World} {x y : Array Value} (h : KP w x y W) (n : Nat) : KP w x y (W.drewN n) := ⟨h.1, h.2.1, below_drewN h.2.2 n⟩

theorem KP.alloc {w W : World} {x y : Array Value} (h : KP w x y W) (o : Obj) : KP w x y (W.alloc o) := ⟨h.1.alloc o, h.2.1.alloc o, h.2.2.alloc h.2.2.size o⟩
theorem rints_drew {w : World} {A : Option Addr} {ns : List Int} (h : RInts w A ns) : RInts w.drew A ns := h
theorem KP.cells {w W : World} {q q' a b : Int} {c d : Bool} (h : KP w #[.int .i32 q, .int .u8 a, .bool c] #[.int .i32 q', .int .u8 b, .bool d] W) :
    W.cell? ⟨w.heap.size, 1, none⟩ = some (.int .u8 a) ∧ W.cell? ⟨w.heap.size + 1, 1, none⟩ = some (.int .u8 b) ∧ W.cell? ⟨w.heap.size, 2, none⟩ = some (.bool c) ∧ W.cell? ⟨w.heap.size + 1, 2, none⟩ = some (.bool d) :=
  ⟨h.1.cell 1, h.2.1.cell 1, h.1.cell 2, h.2.1.cell 2⟩

theorem KP.all {w W : World} {q q' a b : Int} {c d : Bool} (h : KP w #[.int .i32 q, .int .u8 a, .bool c] #[.int .i32 q', .int .u8 b, .bool d] W) :
    (W.cell? ⟨w.heap.size, 0, none⟩ = some (.int .i32 q) ∧ W.cell? ⟨w.heap.size, 1, none⟩ = some (.int .u8 a) ∧ W.cell? ⟨w.heap.size, 2, none⟩ = some (.bool c)) ∧ W.cell? ⟨w.heap.size + 1, 0, none⟩ = some (.int .i32 q') ∧ W.cell? ⟨w.heap.size + 1, 1, none⟩ = some (.int .u8 b) ∧ W.cell? ⟨w.heap.size + 1, 2, none⟩ = some (.bool d) :=
  ⟨⟨h.1.cell 0, h.1.cell 1, h.1.cell 2⟩, h.2.1.cell 0, h.2.1.cell 1, h.2.1.cell 2⟩
theorem wt_eight (x : Int) : wt x % 8 = 0 := by
  rw [wt_eq]
  generalize fb x 0 = a; generalize fb x 1 = b; generalize fb x 2 = c; generalize fb x 3 = d; generalize fb x 4 = e
  revert a b c d e; decide
/-- What a cell weighs tells its rendition's weight and its keeping. -/
theorem weighed_iff (q x y : Int) (c d : Bool) : (Cl.w ⟨q, x, c⟩ == Cl.w ⟨q, y, d⟩) = (wt x == wt y && c == d) := by
  have hx := wt_eight x
  have hy := wt_eight y
  rw [Bool.eq_iff_iff]
  simp only [beq_iff_eq, Bool.and_eq_true, Cl.w]
  cases c <;> cases d <;> simp <;> omega

theorem flip_other {x : Int} (h0 : 0 ≤ x) (h1 : x ≤ 255) : wt (flip x [1, 8]) ≠ wt (x % 32) := by
  have h := all_below (n := 256) (p := fun x => decide (wt (flip x [1, 8]) ≠ wt (x % 32))) (by decide +kernel) h0 (by omega)
  simpa using h

set_option maxHeartbeats 4000000 in
theorem walk (q : Int) (_ : -2147483648 ≤ q) (_ : q ≤ 2147483647) (a : Cl) (oka : a.ok) (b : Cl) (okb : b.ok) (w : World) (ht : Tab w) :
    Calls Tryd.prog 14 #[.int .i32 q, .agg #[.int .i32 a.g, .int .u8 a.r, .bool a.k], .agg #[.int .i32 b.g, .int .u8 b.r, .bool b.k]] w fun e w' => e = .returned (.bool true) ∧ Below w.heap.size w w' := by
  obtain ⟨ag, ar, ak⟩ := a
  obtain ⟨bg, br, bk⟩ := b
  obtain ⟨_, a0, a1⟩ := oka
  obtain ⟨_, b0, b1⟩ := okb
  simp only at a0 a1 b0 b1
  have HE := Lib.hid (fun W => eql_parts W ar br)
  have HG := Lib.hid (fun W p q => guard_parts W p q ar br)
  have HOa := Lib.hid (of_any ar a0 a1)
  have HOb := Lib.hid (of_any br b0 b1)
  have HK : Hid (KP w #[.int .i32 q, .int .u8 ar, .bool ak] #[.int .i32 q, .int .u8 br, .bool bk] ((w.alloc (.cells #[.int .i32 q, .int .u8 ar, .bool ak] 44)).alloc (.cells #[.int .i32 q, .int .u8 br, .bool bk] 44))) :=
    Lib.hid ⟨(Blk.new _ _ _).alloc _, by simpa using Blk.new (w.alloc (.cells #[.int .i32 q, .int .u8 ar, .bool ak] 44)) 44 #[.int .i32 q, .int .u8 br, .bool bk], by go_grown⟩
  have HF := Lib.hid (weighed_iff q ar br ak bk)
  generalize hE : (wt ar == wt br) = E at *
  clear hE
  have HWa := Lib.hid (fun W ht => cellWeight_any q ar ak ⟨a0, a1⟩ W ht)
  have HWb := Lib.hid (fun W ht => cellWeight_any q br bk ⟨b0, b1⟩ W ht)
  generalize Cl.w ⟨q, ar, ak⟩ = wa at *
  generalize Cl.w ⟨q, br, bk⟩ = wb at *
  go_enter Tryd.func14, Tryd.ntmps14
  go_upto_region 2 with fail
  have hk := HK.out
  clear HK
  generalize hW : (w.alloc (Obj.cells #[Value.int .i32 q, Value.int .u8 ar, Value.bool ak] 44)).alloc (Obj.cells #[Value.int .i32 q, Value.int .u8 br, Value.bool bk] 44) = W at *
  clear hW
  obtain ⟨k0, k1, k2, k3⟩ := KP.cells hk
  have hh := fun W' => HE.out W'
  have hg := fun W' p q => HG.out W' p q
  have HKK := Lib.hid hk
  clear hk
  go_cut [7] (fun s wx => s = .bool (E && ak == bk) ∧ KP w #[.int .i32 q, .int .u8 ar, .bool ak] #[.int .i32 q, .int .u8 br, .bool bk] wx)
  case first =>
    cases E
    · first
        | (go_region_with (first
        | (go_at_call_of 22 (Value.int IntKind.u8 ar); refine (HOa.out _).mono ?_; rintro e w1 ⟨rfl, hb1⟩; have K1 : KP w #[.int .i32 q, .int .u8 ar, .bool ak] #[.int .i32 q, .int .u8 br, .bool bk] w1 := KP.next (by first | exact HKK.out | exact HKK.out.drew | exact HKK.out.drewN _) hb1; obtain ⟨m0, m1, m2, m3⟩ := KP.cells K1)
        | (go_at_call_of 22 (Value.int IntKind.u8 br); refine (HOb.out _).mono ?_; rintro e w2 ⟨rfl, hb2⟩; have K2 : KP w #[.int .i32 q, .int .u8 ar, .bool ak] #[.int .i32 q, .int .u8 br, .bool bk] w2 := KP.next (by first | exact K1 | exact K1.drew | exact K1.drewN _) hb2; obtain ⟨n0, n1, n2, n3⟩ := KP.cells K2)))
        | fail "region 2"
      all_goals (go_wp2_with fail; go_meet; exact ⟨by simp, by first | exact K2 | exact K2.drew | exact K2.drewN _⟩)
    · first
        | (go_region_held3 (fun w' => w'.cell? ⟨w.heap.size, 1, none⟩ = some (.int .u8 ar) ∧ w'.cell? ⟨w.heap.size + 1, 1, none⟩ = some (.int .u8 br) ∧ w'.cell? ⟨w.heap.size, 2, none⟩ = some (.bool ak) ∧ w'.cell? ⟨w.heap.size + 1, 2, none⟩ = some (.bool bk)) (first | go_keep | exact KP.cells ‹KP w _ _ w2› | exact KP.cells ‹KP w _ _ w1›)
        (first
        | (go_at_call_of 22 (Value.int IntKind.u8 ar); refine (HOa.out _).mono ?_; rintro e w1 ⟨rfl, hb1⟩; have K1 : KP w #[.int .i32 q, .int .u8 ar, .bool ak] #[.int .i32 q, .int .u8 br, .bool bk] w1 := KP.next (by first | exact HKK.out | exact HKK.out.drew | exact HKK.out.drewN _) hb1)
        | (go_at_call_of 22 (Value.int IntKind.u8 br); refine (HOb.out _).mono ?_; rintro e w2 ⟨rfl, hb2⟩; have K2 : KP w #[.int .i32 q, .int .u8 ar, .bool ak] #[.int .i32 q, .int .u8 br, .bool bk] w2 := KP.next (by first | exact K1 | exact K1.drew | exact K1.drewN _) hb2)))
        | fail "region 2"
      all_goals (go_wp2_with fail; go_meet; exact ⟨by simp, by first | exact K2 | exact K2.drew | exact K2.drewN _⟩)
  case rest =>
    obtain ⟨rfl, hk⟩ := hcut
    clear k0 k1 k2 k3 hh hg HKK HE HG HOa HOb
    go_upto_region 3 with fail
    have c0 : wc.cell? ⟨w.heap.size, 0, none⟩ = some (.int .i32 q) := hk.1.cell 0
    have c1 : wc.cell? ⟨w.heap.size, 1, none⟩ = some (.int .u8 ar) := hk.1.cell 1
    have c2 : wc.cell? ⟨w.heap.size, 2, none⟩ = some (.bool ak) := hk.1.cell 2
    have d0 : wc.cell? ⟨w.heap.size + 1, 0, none⟩ = some (.int .i32 q) := hk.2.1.cell 0
    have d1 : wc.cell? ⟨w.heap.size + 1, 1, none⟩ = some (.int .u8 br) := hk.2.1.cell 1
    have d2 : wc.cell? ⟨w.heap.size + 1, 2, none⟩ = some (.bool bk) := hk.2.1.cell 2
    have HKK := Lib.hid hk
    clear hk
    have hf := HF.out
    generalize (E && ak == bk) = F at *
    go_cut [32] (fun s wx => s = .bool false ∧ KP w #[.int .i32 q, .int .u8 ar, .bool ak] #[.int .i32 q, .int .u8 br, .bool bk] wx)
    case first =>
      go_region_held3 (fun w' => (w'.cell? ⟨w.heap.size, 0, none⟩ = some (.int .i32 q) ∧ w'.cell? ⟨w.heap.size, 1, none⟩ = some (.int .u8 ar) ∧ w'.cell? ⟨w.heap.size, 2, none⟩ = some (.bool ak)) ∧ w'.cell? ⟨w.heap.size + 1, 0, none⟩ = some (.int .i32 q) ∧ w'.cell? ⟨w.heap.size + 1, 1, none⟩ = some (.int .u8 br) ∧ w'.cell? ⟨w.heap.size + 1, 2, none⟩ = some (.bool bk)) (first | go_keep | exact KP.all ‹KP w _ _ w2› | exact KP.all ‹KP w _ _ w1›)
        (first
          | (go_at_call_of 32 (Value.agg #[Value.int IntKind.i32 q, Value.int IntKind.u8 ar, Value.bool ak]); refine (HWa.out _ ?_).mono ?_; (exact ht.next (by first | exact HKK.out.2.2 | exact HKK.out.drew.2.2 | exact (HKK.out.drewN _).2.2)); rintro e w1 ⟨rfl, hb1⟩; have K1 : KP w #[.int .i32 q, .int .u8 ar, .bool ak] #[.int .i32 q, .int .u8 br, .bool bk] w1 := KP.next (by first | exact HKK.out | exact HKK.out.drew | exact HKK.out.drewN _) hb1)
          | (go_at_call_of 32 (Value.agg #[Value.int IntKind.i32 q, Value.int IntKind.u8 br, Value.bool bk]); refine (HWb.out _ ?_).mono ?_; (exact ht.next (by first | exact K1.2.2 | exact K1.drew.2.2 | exact (K1.drewN _).2.2)); rintro e w2 ⟨rfl, hb2⟩; have K2 : KP w #[.int .i32 q, .int .u8 ar, .bool ak] #[.int .i32 q, .int .u8 br, .bool bk] w2 := KP.next (by first | exact K1 | exact K1.drew | exact K1.drewN _) hb2))
      all_goals (go_wp2_with fail; go_meet; exact ⟨by simp, by first | exact K2 | exact K2.drew | exact K2.drewN _⟩)
    case rest =>
      obtain ⟨rfl, hk⟩ := hcut
      clear c0 c1 c2 d0 d1 d2 HKK hf HF HWa HWb
      have hfl : ∀ (W : World) (A : Option Addr) (c : Nat), Tab W → RInts W A [1, 8] → Calls Tryd.prog 19 #[.int .u8 ar, .slice A 2 c] W fun e w2 => e = .returned (.int .u8 (flip ar [1, 8])) ∧ Below W.heap.size W w2 :=
        fun W A c h hr => flip_any ar a0 a1 A c [1, 8] (by unfold maxLen; decide) W h hr
      have HFl := Lib.hid hfl
      clear hfl
      have c1 : wc.cell? ⟨w.heap.size, 1, none⟩ = some (.int .u8 ar) := hk.1.cell 1
      have HKK := Lib.hid hk
      clear hk
      have hb0 : Below wc.heap.size wc (wc.alloc (.cells #[.int .i64 1, .int .i64 8] 3)) := (Below.refl _ _).alloc (Nat.le_refl _) _
      have HR := Lib.hid (rints_new wc 3 [1, 8] #[.int .i64 1, .int .i64 8] rfl wc.heap.size rfl)
      obtain ⟨f0, f1⟩ := flip_range (x := ar) [1, 8]
      have HV := Lib.hid (flip_twice (x := ar) [1, 8])
      have hn := flip_other a0 a1
      have hn' : (Cl.w ⟨q, flip ar [1, 8], ak⟩ != Cl.w ⟨q, ar % 32, ak⟩) = true := by
        have := weighed_iff q (flip ar [1, 8]) (ar % 32) ak ak
        rw [bne, this]
        simp [hn]
      clear hn
      generalize flip ar [1, 8] = r at *
      have f2 : r ≤ 255 := by omega
      have hf2 : ∀ (W : World) (A : Option Addr) (c : Nat), Tab W → RInts W A [1, 8] → Calls Tryd.prog 19 #[.int .u8 r, .slice A 2 c] W fun e w2 => e = .returned (.int .u8 (ar % 32)) ∧ Below W.heap.size W w2 := by
        intro W A c h hr
        have := flip_any r f0 f2 A c [1, 8] (by unfold maxLen; decide) W h hr
        rwa [HV.out] at this
      have HF2 := Lib.hid hf2
      clear hf2
      have m0 : 0 ≤ ar % 32 ∧ ar % 32 ≤ 255 := by omega
      obtain ⟨m0, m1⟩ := m0
      have HW1 := Lib.hid (fun W ht => cellWeight_any q r ak ⟨f0, f2⟩ W ht)
      have HW2 := Lib.hid (fun W ht => cellWeight_any q (ar % 32) ak ⟨m0, m1⟩ W ht)
      have HW3 := Lib.hid (fun W ht => weight_any r f0 f2 W ht)
      obtain ⟨t0, t1⟩ := wt_range r
      clear HV
      generalize wt r = wr at *
      generalize Cl.w ⟨q, r, ak⟩ = x1 at *
      generalize Cl.w ⟨q, ar % 32, ak⟩ = x2 at *
      generalize ar % 32 = r2 at *
      have hfz : ∀ w2 : World, Below (wc.alloc (.cells #[.int .i64 1, .int .i64 8] 3)).heap.size (wc.alloc (.cells #[.int .i64 1, .int .i64 8] 3)) w2 → KP w #[.int .i32 q, .int .u8 ar, .bool ak] #[.int .i32 q, .int .u8 br, .bool bk] w2 :=
        fun w2 h => (HKK.out.next hb0).next h
      have HFz := Lib.hid hfz
      clear hfz
      go_wp2_with fail
      refine (HFl.out _ _ _ ((ht.next HKK.out.2.2).next hb0) HR.out).mono ?_
      rintro e w2 ⟨rfl, hb2⟩
      have hk2 := HFz.out w2 hb2
      have c1' : w2.cell? ⟨w.heap.size, 1, none⟩ = some (.int .u8 ar) := hk2.1.cell 1
      have z1 : w2.frozen? ⟨w.heap.size, 1, none⟩ = false := hk2.1.frozen 1
      have HK2 := Lib.hid hk2
      clear hk2
      go_upto_region 6 with fail
      have hk3 : KP w #[.int .i32 q, .int .u8 r, .bool ak] #[.int .i32 q, .int .u8 br, .bool bk] (w2.setCell ⟨w.heap.size, 1, none⟩ (.int .u8 r)) :=
        ⟨HK2.out.1.set_ 1 _, HK2.out.2.1.far (by simp) _, HK2.out.2.2.setCell (Nat.le_refl _) _⟩
      generalize w2.setCell ⟨w.heap.size, 1, none⟩ (Value.int .u8 r) = w3 at *
      clear c1' z1 HK2 HFz hb2 hb0 HR HKK c1 HFl
      have c0 : w3.cell? ⟨w.heap.size, 0, none⟩ = some (.int .i32 q) := hk3.1.cell 0
      have c1 : w3.cell? ⟨w.heap.size, 1, none⟩ = some (.int .u8 r) := hk3.1.cell 1
      have c2 : w3.cell? ⟨w.heap.size, 2, none⟩ = some (.bool ak) := hk3.1.cell 2
      have HK3 := Lib.hid hk3
      clear hk3
      go_region_held3 (fun w' => w'.cell? ⟨w.heap.size, 0, none⟩ = some (.int .i32 q) ∧ w'.cell? ⟨w.heap.size, 1, none⟩ = some (.int .u8 r) ∧ w'.cell? ⟨w.heap.size, 2, none⟩ = some (.bool ak)) (first | go_keep | exact (KP.all ‹KP w _ _ w7›).1 | exact (KP.all ‹KP w _ _ w6›).1 | exact (KP.all ‹KP w _ _ w5›).1 | exact (KP.all ‹KP w _ _ w4›).1)
        (first
          | (go_at_call_of 32 (Value.agg #[Value.int IntKind.i32 q, Value.int IntKind.u8 r, Value.bool ak]); refine (HW1.out _ ?_).mono ?_; (exact ht.next (by first | exact HK3.out.2.2 | exact HK3.out.drew.2.2 | exact (HK3.out.drew.alloc _).2.2 | exact (HK3.out.alloc _).2.2 | exact (HK3.out.alloc _).drew.2.2)); rintro e w4 ⟨rfl, hb4⟩; have K4 : KP w #[.int .i32 q, .int .u8 r, .bool ak] #[.int .i32 q, .int .u8 br, .bool bk] w4 := KP.next (by first | exact HK3.out | exact HK3.out.drew | exact HK3.out.drew.alloc _ | exact HK3.out.alloc _ | exact (HK3.out.alloc _).drew) hb4)
          | (go_at_call_of 19 (Value.int IntKind.u8 r); refine (HF2.out _ _ _ ?_ ?_).mono ?_; (exact ht.next (by first | exact (K4.alloc _).2.2 | exact K4.2.2 | exact (K4.drew.alloc _).2.2 | exact (K4.alloc _).drew.2.2)); (first | exact rints_new _ _ [1, 8] _ rfl _ rfl | exact RInts.next (rints_drew (rints_new w3 3 [1, 8] #[.int .i64 1, .int .i64 8] rfl w3.heap.size rfl)) hb4); rintro e w5 ⟨rfl, hb5⟩; have K5 : KP w #[.int .i32 q, .int .u8 r, .bool ak] #[.int .i32 q, .int .u8 br, .bool bk] w5 := KP.next (by first | exact K4.alloc _ | exact K4 | exact K4.drew.alloc _ | exact (K4.alloc _).drew) hb5)
          | (go_at_call_of 32 (Value.agg #[Value.int IntKind.i32 q, Value.int IntKind.u8 r2, Value.bool ak]); refine (HW2.out _ ?_).mono ?_; (exact ht.next (by first | exact K5.2.2 | exact K5.drew.2.2 | exact (K5.drewN _).2.2)); rintro e w6 ⟨rfl, hb6⟩; have K6 : KP w #[.int .i32 q, .int .u8 r, .bool ak] #[.int .i32 q, .int .u8 br, .bool bk] w6 := KP.next (by first | exact K5 | exact K5.drew | exact K5.drewN _) hb6)
          | (go_at_call 29; refine (HW3.out _ ?_).mono ?_; (exact ht.next (by first | exact K6.2.2 | exact K6.drew.2.2 | exact (K6.drewN _).2.2)); rintro e w7 ⟨rfl, hb7⟩; have K7 : KP w #[.int .i32 q, .int .u8 r, .bool ak] #[.int .i32 q, .int .u8 br, .bool bk] w7 := KP.next (by first | exact K6 | exact K6.drew | exact K6.drewN _) hb7))
      all_goals
        go_wp2_with fail
        go_ret
        exact ⟨rfl, by first | exact K7.2.2 | exact K7.drew.2.2 | exact (K7.drewN _).2.2⟩

/-- What the walk gives, for every argument and every world that holds the table. -/
theorem contract (H : Type) (enc : TypeId × Value → H) (W : World) (base : Nat) (args : Array Value) (ds gs : List (DataW H)) (before : List MemPlace)
    (hval : ∀ (j : Nat) t v, Tryd.f14.params[j]? = some t → args[j]? = some v → Value.okWide Tryd.prog W .any base t v)
    (hW : DataW.Whole enc Tryd.prog Tryd.f14.params.toList Rows.phosphorWeighedSpec.vars false W args.toList ds gs before) (hL : laidMetH Tryd.prog Rows.phosphorWeighedRow.laid W)
    (hreach : (DataW.weightsEach Tryd.prog (Tryd.f14.params.toList ++ []) (ds ++ gs)).all (· ≤ reachBytes) = true) :
    Calls Tryd.prog 14 args W fun e W' => ∃ v, e = .returned v ∧ Rows.phosphorWeighedSpec.post enc Tryd.prog Tryd.f14 false true false false W args v W' := by
  have hW' := hW
  have ht := tab_of hL
  have hlts : ∀ x ∈ before, x.block < W.heap.size := fun x hx => hW'.lt x hx
  obtain ⟨p, q, hA0, hV, rfl, hfz, hnd⟩ := hW
  have hA : DataW.TrodAll enc Tryd.prog W 0 (fun _ => true) true Tryd.f14.params.toList args.toList ds p := hA0
  rw [Tryd.params14] at hA hval hreach
  obtain ⟨v0, vs0, d0, ds0, p0, q0, hargs, rfl, rfl, h0, r0⟩ := trodAll_cons hA
  obtain ⟨v1, vs1, d1, ds1, p1, q1, rfl, rfl, rfl, h1, r1⟩ := trodAll_cons r0
  obtain ⟨v2, vs2, d2, ds2, p2, q2, rfl, rfl, rfl, h2, r2⟩ := trodAll_cons r1
  obtain ⟨rfl, rfl, rfl⟩ := trodAll_nil r2
  obtain rfl : args = #[v0, v1, v2] := by cases args; simp_all
  obtain ⟨rfl, rfl⟩ := trodVars_none hV
  obtain ⟨a0, rfl, rfl, rfl, w0⟩ := open_int Tryd.underlying21 (hval 0 21 v0 rfl rfl) h0
  obtain ⟨lo0, hi0⟩ := bounds_i32 w0
  obtain ⟨c1, rfl, ok1⟩ := cell_in (hval 1 44 v1 rfl rfl) h1
  obtain ⟨c2, rfl, ok2⟩ := cell_in (hval 2 44 v2 rfl rfl) h2
  clear hA0
  refine (walk a0 lo0 hi0 c1 ok1 c2 ok2 W ht).mono fun e W' ⟨he, hb⟩ => ?_
  subst he
  exact ⟨_, rfl, post_law laidOut (by kernel_rfl) (by kernel_rfl) rfl hW' rfl hb⟩

theorem laid_met (os : Os) : laidMet Tryd.prog Rows.phosphorWeighedRow.laid ((laidWorld os).forCall (fun _ _ => 0) ⟨#[], #[Value.int .i32 0, Value.agg #[.int .i32 0, .int .u8 0, .bool false], Value.agg #[.int .i32 0, .int .u8 0, .bool false]], []⟩).memory :=
  laidMet_of_run' 8 (by kernel_rfl) (by kernel_rfl)
theorem reads (os : Os) {H : Type} (enc : TypeId × Value → H) : ∃ places, DataW.whole enc Tryd.prog ((laidWorld os).forCall (fun _ _ => 0) ⟨#[], #[Value.int .i32 0, Value.agg #[.int .i32 0, .int .u8 0, .bool false], Value.agg #[.int .i32 0, .int .u8 0, .bool false]], []⟩).memory Tryd.f14.params.toList Rows.phosphorWeighedSpec.vars false (#[Value.int .i32 0, Value.agg #[.int .i32 0, .int .u8 0, .bool false], Value.agg #[.int .i32 0, .int .u8 0, .bool false]] : Array Value).toList 8 = some ([.lit (.int .i32 0), .agg [.lit (.int .i32 0), .lit (.int .u8 0), .lit (.bool false)], .agg [.lit (.int .i32 0), .lit (.int .u8 0), .lit (.bool false)]], [], places) :=
  ⟨[], by kernel_rfl⟩

set_option maxRecDepth 100000 in
theorem lifted (os : Os) (started : os.Started) (H : Type) (enc : TypeId × Value → H) (F : Stop.Interp) :
    ReturnsInHanded {} Tryd.checked os 14 .any ((OpenSpec.ofChange Rows.phosphorWeighedSpec).preRow enc Tryd.prog Tryd.f14 Rows.phosphorWeighedRow.domain false Rows.phosphorWeighedRow.laid) (((OpenSpec.ofChange Rows.phosphorWeighedSpec).at F).post enc Tryd.prog Tryd.f14 false true false false) := by
  obtain ⟨places, hx⟩ := reads os enc
  refine returnsInHanded_of_row (C := Tryd.checked) (s := OpenSpec.ofChange Rows.phosphorWeighedSpec) own started (by kernel_rfl) Tryd.func14
    (witness_row_at (enc := enc) (C := Tryd.checked) false (laidWorld os) #[Value.int .i32 0, Value.agg #[.int .i32 0, .int .u8 0, .bool false], Value.agg #[.int .i32 0, .int .u8 0, .bool false]] rfl (by kernel_rfl) (by kernel_rfl) (by kernel_rfl)
      (OpenSpec.preRow_of_cond 8 hx (by kernel_rfl) (fun k hk => by cases hk) (by kernel_rfl) (laid_met os))) ?_
  intro W base args ds gs before hval hW _ _ hreach hL _ _
  exact contract H enc W base args ds gs before hval hW hL hreach

theorem said : Rows.PhosphorWeighedSaid :=
  OpenClaim.holds_of_cond 14 Tryd.f14 rfl rfl rfl rfl rfl rfl rfl ⟨rfl, rfl, rfl, rfl, rfl⟩ rfl rfl rfl rfl rfl (by kernel_rfl) Tryd.func14 (by kernel_rfl)
    (of_decide_eq_true (by kernel_rfl)) (by unfold Func.isWrapper; first | (rw [if_pos (by decide +kernel)]; kernel_rfl) | (rw [if_neg (by decide +kernel)]; exact ⟨rfl, rfl⟩))
    (fun os started H enc _ F => by rw [OpenClaim.pre_eq_preRow]; exact lifted os started H enc F)

theorem plain (f : FuncId) (fn : Func) (hf : Tryd.pinned.checked.prog.funcNamed "phosphor/phosphortop.PhosphorWeighed" = some f) (hfn : Tryd.pinned.checked.prog.funcs[f]? = some fn) :
    false = Tryd.pinned.checked.prog.looks [] ∧ ∀ (j : Nat) t, fn.params[j]? = some t → Tryd.pinned.checked.prog.wantsStandIn t = false := by
  obtain rfl : f = 14 := Option.some.inj ((show Tryd.prog.funcNamed "phosphor/phosphortop.PhosphorWeighed" = some 14 by kernel_rfl).symm.trans hf) |>.symm
  obtain rfl : fn = Tryd.f14 := (Option.some.inj (Tryd.func14.symm.trans hfn)).symm
  refine ⟨by kernel_rfl, fun j t ht => ?_⟩
  rw [Tryd.params14] at ht
  have hm : t ∈ [21, 44, 44] := by simpa using Array.mem_of_getElem? ht
  have hall : ([21, 44, 44].all fun u => !Tryd.prog.wantsStandIn u) = true := by kernel_rfl
  exact (show Tryd.prog.wantsStandIn t = false by simpa using List.all_eq_true.1 hall t hm)

/-- The card. -/
theorem card : Rows.PhosphorWeighedCardSaid :=
  Claim7.holds_tied_plain_at .later [] _ _ _ _ said (fun _ h => by cases h) (by kernel_rfl) (fun _ h => by cases h) phosphorWeighed_row_tie rfl ⟨rfl, rfl⟩ (by kernel_rfl) rfl plain (by kernel_rfl)
#print axioms card
end Go.Proofs.YtdjbfnhgendacaaDoor.phosphorWeighed

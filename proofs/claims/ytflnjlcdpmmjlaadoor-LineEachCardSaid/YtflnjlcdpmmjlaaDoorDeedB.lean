/-
  The deeds that are done with a cell, the reference's.
-/
import Derived.Test.YtflnjlcdpmmjlaaDoorDeedA
import Derived.Test.YtflnjlcdpmmjlaaDoorRendE
import Derived.Test.YtflnjlcdpmmjlaaDoorRendF
namespace Go.Proofs.YtflnjlcdpmmjlaaDoor
open Go Go.RowKit

/-- Three boxes of cells. -/
def KD (w : World) (x y z : Array Value) (w' : World) : Prop := Blk w' w.heap.size 29 x ∧ Blk w' (w.heap.size + 1) 29 y ∧ Blk w' (w.heap.size + 1 + 1) 29 z ∧ Below w.heap.size w w'
theorem KD.start (w : World) (x y z : Array Value) : KD w x y z (((w.alloc (.cells x 29)).alloc (.cells y 29)).alloc (.cells z 29)) := by
  have h := KC.start w x y
  have h3 := Blk.new ((w.alloc (.cells x 29)).alloc (.cells y 29)) 29 z
  simp at h3
  exact ⟨h.1.alloc _, h.2.1.alloc _, h3, h.2.2.alloc (by simp; omega) _⟩
theorem KD.next {w W w' : World} {x y z : Array Value} (h : KD w x y z W) (hb : Below W.heap.size W w') : KD w x y z w' := ⟨h.1.next hb, h.2.1.next hb, h.2.2.1.next hb, h.2.2.2.trans (hb.mono h.2.2.2.size)⟩
theorem KD.all {w W : World} {a b c a' b' c' d e f : Value} (h : KD w #[a, b, c] #[a', b', c'] #[d, e, f] W) :
    (W.cell? ⟨w.heap.size, 0, none⟩ = some a ∧ W.cell? ⟨w.heap.size, 1, none⟩ = some b ∧ W.cell? ⟨w.heap.size, 2, none⟩ = some c) ∧ (W.cell? ⟨w.heap.size + 1, 0, none⟩ = some a' ∧ W.cell? ⟨w.heap.size + 1, 1, none⟩ = some b' ∧ W.cell? ⟨w.heap.size + 1, 2, none⟩ = some c') ∧ (W.cell? ⟨w.heap.size + 1 + 1, 0, none⟩ = some d ∧ W.cell? ⟨w.heap.size + 1 + 1, 1, none⟩ = some e ∧ W.cell? ⟨w.heap.size + 1 + 1, 2, none⟩ = some f) ∧ W.frozen? ⟨w.heap.size, 0, none⟩ = false ∧ W.frozen? ⟨w.heap.size, 1, none⟩ = false ∧ W.frozen? ⟨w.heap.size, 2, none⟩ = false ∧ W.frozen? ⟨w.heap.size + 1 + 1, 0, none⟩ = false ∧ W.frozen? ⟨w.heap.size + 1 + 1, 1, none⟩ = false ∧ W.frozen? ⟨w.heap.size + 1 + 1, 2, none⟩ = false :=
  ⟨⟨h.1.cell 0, h.1.cell 1, h.1.cell 2⟩, ⟨h.2.1.cell 0, h.2.1.cell 1, h.2.1.cell 2⟩, ⟨h.2.2.1.cell 0, h.2.2.1.cell 1, h.2.2.1.cell 2⟩, h.1.frozen 0, h.1.frozen 1, h.1.frozen 2, h.2.2.1.frozen 0, h.2.2.1.frozen 1, h.2.2.1.frozen 2⟩
theorem KD.set0 {w W : World} {a b c : Value} {y z : Array Value} (h : KD w #[a, b, c] y z W) (v : Value) : KD w #[v, b, c] y z (W.setCell ⟨w.heap.size, 0, none⟩ v) :=
  ⟨h.1.set_ 0 v, Blk.far h.2.1 (by simp) _, Blk.far h.2.2.1 (by simp; omega) _, h.2.2.2.setCell (by simp) _⟩
theorem KD.set1 {w W : World} {a b c : Value} {y z : Array Value} (h : KD w #[a, b, c] y z W) (v : Value) : KD w #[a, v, c] y z (W.setCell ⟨w.heap.size, 1, none⟩ v) :=
  ⟨h.1.set_ 1 v, Blk.far h.2.1 (by simp) _, Blk.far h.2.2.1 (by simp; omega) _, h.2.2.2.setCell (by simp) _⟩
theorem KD.set2 {w W : World} {a b c : Value} {y z : Array Value} (h : KD w #[a, b, c] y z W) (v : Value) : KD w #[a, b, v] y z (W.setCell ⟨w.heap.size, 2, none⟩ v) :=
  ⟨h.1.set_ 2 v, Blk.far h.2.1 (by simp) _, Blk.far h.2.2.1 (by simp; omega) _, h.2.2.2.setCell (by simp) _⟩
theorem KD.put {w W : World} {x y : Array Value} {a b c : Value} (h : KD w x y #[a, b, c] W) (u v z : Value) : KD w x y #[u, v, z] (((W.setCell ⟨w.heap.size + 1 + 1, 0, none⟩ u).setCell ⟨w.heap.size + 1 + 1, 1, none⟩ v).setCell ⟨w.heap.size + 1 + 1, 2, none⟩ z) :=
  ⟨Blk.far (Blk.far (Blk.far h.1 (by simp; omega) _) (by simp; omega) _) (by simp; omega) _, Blk.far (Blk.far (Blk.far h.2.1 (by simp) _) (by simp) _) (by simp) _, ((h.2.2.1.set_ 0 u).set_ 1 v).set_ 2 z, ((h.2.2.2.setCell (by simp; omega) _).setCell (by simp; omega) _).setCell (by simp; omega) _⟩
set_option maxRecDepth 100000 in
set_option maxHeartbeats 2000000 in
theorem refClean1_any (x c : Cl) (ps : Value) (w : World) :
    Calls Tryd.prog 31 #[.int .i64 2, x.val, c.val, ps] w fun e w' => e = .returned (cleanC 32 x).val ∧ Below w.heap.size w w' := by
  obtain ⟨g, r, k⟩ := x
  obtain ⟨g2, r2, k2⟩ := c
  unfold Cl.val cleanC
  simp only
  cases k with
  | false =>
    have HK := Lib.hid (KD.start w #[.int .i32 g, .int .u8 r, .bool false] #[.int .i32 g2, .int .u8 r2, .bool k2] #[.int .i32 0, .int .u8 0, .bool false])
    go_enter Tryd.func31, Tryd.ntmps31
    go_upto_region 1 with fail
    generalize ((w.alloc (.cells #[.int .i32 g, .int .u8 r, .bool false] 29)).alloc (.cells #[.int .i32 g2, .int .u8 r2, .bool k2] 29)).alloc (.cells #[.int .i32 0, .int .u8 0, .bool false] 29) = w0 at *
    have HK2 := Lib.hid (HK.out.set0 (.int .i32 32))
    have HK3 := Lib.hid (HK2.out.put (.int .i32 32) (.int .u8 r) (.bool false))
    obtain ⟨⟨pa0, pa1, pa2⟩, ⟨pb0, pb1, pb2⟩, ⟨pc0, pc1, pc2⟩, pf0, pf1, pf2, pf3, pf4, pf5⟩ := HK.out.all
    obtain ⟨⟨qa0, qa1, qa2⟩, ⟨qb0, qb1, qb2⟩, ⟨qc0, qc1, qc2⟩, qf0, qf1, qf2, qf3, qf4, qf5⟩ := HK2.out.all
    go_wp2_with fail
    obtain ⟨_, _, ⟨e0, e1, e2⟩, _⟩ := HK3.out.all
    exact bodyPost_ret (v := .agg #[.int .i32 32, .int .u8 r, .bool false]) (by simp [results, Tryd.results31, go_sem, e0, e1, e2]) rfl ⟨rfl, HK3.out.2.2.2⟩
  | true =>
    have HK := Lib.hid (KD.start w #[.int .i32 g, .int .u8 r, .bool true] #[.int .i32 g2, .int .u8 r2, .bool k2] #[.int .i32 0, .int .u8 0, .bool false])
    go_enter Tryd.func31, Tryd.ntmps31
    go_upto_region 1 with fail
    generalize ((w.alloc (.cells #[.int .i32 g, .int .u8 r, .bool true] 29)).alloc (.cells #[.int .i32 g2, .int .u8 r2, .bool k2] 29)).alloc (.cells #[.int .i32 0, .int .u8 0, .bool false] 29) = w0 at *
    have HK3 := Lib.hid (HK.out.put (.int .i32 g) (.int .u8 r) (.bool true))
    obtain ⟨⟨pa0, pa1, pa2⟩, ⟨pb0, pb1, pb2⟩, ⟨pc0, pc1, pc2⟩, pf0, pf1, pf2, pf3, pf4, pf5⟩ := HK.out.all
    go_wp2_with fail
    obtain ⟨_, _, ⟨e0, e1, e2⟩, _⟩ := HK3.out.all
    exact bodyPost_ret (v := .agg #[.int .i32 g, .int .u8 r, .bool true]) (by simp [results, Tryd.results31, go_sem, e0, e1, e2]) rfl ⟨rfl, HK3.out.2.2.2⟩
set_option maxRecDepth 100000 in
set_option maxHeartbeats 2000000 in
theorem refApply1_any (x c : Cl) (hx : 0 ≤ x.r ∧ x.r ≤ 255) (A : Option Addr) (cp : Nat) (ns : List Int) (hm : ns.length ≤ maxLen) (w : World) (hr : RInts w A ns) :
    Calls Tryd.prog 31 #[.int .i64 3, x.val, c.val, .slice A ns.length cp] w fun e w' => e = .returned (applyC ns x).val ∧ Below w.heap.size w w' := by
  obtain ⟨g, r, k⟩ := x
  obtain ⟨g2, r2, k2⟩ := c
  have HA := Lib.hid (fun W h1 => refApply_any r hx.1 hx.2 A cp ns hm W h1)
  have HR := Lib.hid hr
  clear hr hm hx
  unfold Cl.val applyC
  generalize ns.length = n at *
  simp only
  generalize apply r ns = r3 at *
  have HK := Lib.hid (KD.start w #[.int .i32 g, .int .u8 r, .bool k] #[.int .i32 g2, .int .u8 r2, .bool k2] #[.int .i32 0, .int .u8 0, .bool false])
  go_enter Tryd.func31, Tryd.ntmps31
  go_upto_region 1 with fail
  generalize ((w.alloc (.cells #[.int .i32 g, .int .u8 r, .bool k] 29)).alloc (.cells #[.int .i32 g2, .int .u8 r2, .bool k2] 29)).alloc (.cells #[.int .i32 0, .int .u8 0, .bool false] 29) = w0 at *
  obtain ⟨⟨pa0, pa1, pa2⟩, ⟨pb0, pb1, pb2⟩, ⟨pc0, pc1, pc2⟩, pf0, pf1, pf2, pf3, pf4, pf5⟩ := HK.out.all
  go_wp2_with fail
  refine (HA.out _ (HR.out.next HK.out.2.2.2)).mono ?_
  rintro e w1 ⟨rfl, hb1⟩
  have HK1 := Lib.hid (HK.out.next hb1)
  clear hb1 pa0 pa1 pa2 pb0 pb1 pb2 pc0 pc1 pc2 pf0 pf1 pf2 pf3 pf4 pf5
  have HK2 := Lib.hid (HK1.out.set1 (.int .u8 r3))
  have HK3 := Lib.hid (HK2.out.put (.int .i32 g) (.int .u8 r3) (.bool k))
  obtain ⟨⟨pa0, pa1, pa2⟩, ⟨pb0, pb1, pb2⟩, ⟨pc0, pc1, pc2⟩, pf0, pf1, pf2, pf3, pf4, pf5⟩ := HK1.out.all
  obtain ⟨⟨qa0, qa1, qa2⟩, ⟨qb0, qb1, qb2⟩, ⟨qc0, qc1, qc2⟩, qf0, qf1, qf2, qf3, qf4, qf5⟩ := HK2.out.all
  go_wp2_with fail
  obtain ⟨_, _, ⟨e0, e1, e2⟩, _⟩ := HK3.out.all
  exact bodyPost_ret (v := .agg #[.int .i32 g, .int .u8 r3, .bool k]) (by simp [results, Tryd.results31, go_sem, e0, e1, e2]) rfl ⟨rfl, HK3.out.2.2.2⟩
set_option maxRecDepth 100000 in
set_option maxHeartbeats 2000000 in
theorem refFlip1_any (x c : Cl) (hx : 0 ≤ x.r ∧ x.r ≤ 255) (A : Option Addr) (cp : Nat) (ns : List Int) (hm : ns.length ≤ maxLen) (w : World) (hr : RInts w A ns) :
    Calls Tryd.prog 31 #[.int .i64 4, x.val, c.val, .slice A ns.length cp] w fun e w' => e = .returned (flipC ns x).val ∧ Below w.heap.size w w' := by
  obtain ⟨g, r, k⟩ := x
  obtain ⟨g2, r2, k2⟩ := c
  have HA := Lib.hid (fun W h1 => refFlip_any r hx.1 hx.2 A cp ns hm W h1)
  have HR := Lib.hid hr
  clear hr hm hx
  unfold Cl.val flipC
  generalize ns.length = n at *
  simp only
  generalize flip r ns = r3 at *
  have HK := Lib.hid (KD.start w #[.int .i32 g, .int .u8 r, .bool k] #[.int .i32 g2, .int .u8 r2, .bool k2] #[.int .i32 0, .int .u8 0, .bool false])
  go_enter Tryd.func31, Tryd.ntmps31
  go_upto_region 1 with fail
  generalize ((w.alloc (.cells #[.int .i32 g, .int .u8 r, .bool k] 29)).alloc (.cells #[.int .i32 g2, .int .u8 r2, .bool k2] 29)).alloc (.cells #[.int .i32 0, .int .u8 0, .bool false] 29) = w0 at *
  obtain ⟨⟨pa0, pa1, pa2⟩, ⟨pb0, pb1, pb2⟩, ⟨pc0, pc1, pc2⟩, pf0, pf1, pf2, pf3, pf4, pf5⟩ := HK.out.all
  go_wp2_with fail
  refine (HA.out _ (HR.out.next HK.out.2.2.2)).mono ?_
  rintro e w1 ⟨rfl, hb1⟩
  have HK1 := Lib.hid (HK.out.next hb1)
  clear hb1 pa0 pa1 pa2 pb0 pb1 pb2 pc0 pc1 pc2 pf0 pf1 pf2 pf3 pf4 pf5
  have HK2 := Lib.hid (HK1.out.set1 (.int .u8 r3))
  have HK3 := Lib.hid (HK2.out.put (.int .i32 g) (.int .u8 r3) (.bool k))
  obtain ⟨⟨pa0, pa1, pa2⟩, ⟨pb0, pb1, pb2⟩, ⟨pc0, pc1, pc2⟩, pf0, pf1, pf2, pf3, pf4, pf5⟩ := HK1.out.all
  obtain ⟨⟨qa0, qa1, qa2⟩, ⟨qb0, qb1, qb2⟩, ⟨qc0, qc1, qc2⟩, qf0, qf1, qf2, qf3, qf4, qf5⟩ := HK2.out.all
  go_wp2_with fail
  obtain ⟨_, _, ⟨e0, e1, e2⟩, _⟩ := HK3.out.all
  exact bodyPost_ret (v := .agg #[.int .i32 g, .int .u8 r3, .bool k]) (by simp [results, Tryd.results31, go_sem, e0, e1, e2]) rfl ⟨rfl, HK3.out.2.2.2⟩
set_option maxRecDepth 100000 in
set_option maxHeartbeats 2000000 in
theorem refKeep1_any (x c : Cl) (ps : Value) (w : World) :
    Calls Tryd.prog 31 #[.int .i64 5, x.val, c.val, ps] w fun e w' => e = .returned (keepC c.k x).val ∧ Below w.heap.size w w' := by
  obtain ⟨g, r, k⟩ := x
  obtain ⟨g2, r2, k2⟩ := c
  unfold Cl.val keepC
  simp only
  have HK := Lib.hid (KD.start w #[.int .i32 g, .int .u8 r, .bool k] #[.int .i32 g2, .int .u8 r2, .bool k2] #[.int .i32 0, .int .u8 0, .bool false])
  go_enter Tryd.func31, Tryd.ntmps31
  go_upto_region 1 with fail
  generalize ((w.alloc (.cells #[.int .i32 g, .int .u8 r, .bool k] 29)).alloc (.cells #[.int .i32 g2, .int .u8 r2, .bool k2] 29)).alloc (.cells #[.int .i32 0, .int .u8 0, .bool false] 29) = w0 at *
  have HK2 := Lib.hid (HK.out.set2 (.bool k2))
  have HK3 := Lib.hid (HK2.out.put (.int .i32 g) (.int .u8 r) (.bool k2))
  obtain ⟨⟨pa0, pa1, pa2⟩, ⟨pb0, pb1, pb2⟩, ⟨pc0, pc1, pc2⟩, pf0, pf1, pf2, pf3, pf4, pf5⟩ := HK.out.all
  obtain ⟨⟨qa0, qa1, qa2⟩, ⟨qb0, qb1, qb2⟩, ⟨qc0, qc1, qc2⟩, qf0, qf1, qf2, qf3, qf4, qf5⟩ := HK2.out.all
  go_wp2_with fail
  obtain ⟨_, _, ⟨e0, e1, e2⟩, _⟩ := HK3.out.all
  exact bodyPost_ret (v := .agg #[.int .i32 g, .int .u8 r, .bool k2]) (by simp [results, Tryd.results31, go_sem, e0, e1, e2]) rfl ⟨rfl, HK3.out.2.2.2⟩
end Go.Proofs.YtflnjlcdpmmjlaaDoor

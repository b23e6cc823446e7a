/-
  The deeds that are done with every cell of a span: renditions changed or turned over, cells kept or not.
-/
import Derived.Test.YtflnjlcdpmmjlaaDoorDeedA
import Derived.Test.YtflnjlcdpmmjlaaDoorLineL2
namespace Go.Proofs.YtflnjlcdpmmjlaaDoor
open Go Go.RowKit

set_option maxRecDepth 100000 in
set_option maxHeartbeats 4000000 in
theorem change_any (A : Option Addr) (c : Nat) (l : List Cl) (size f t : Int) (hl : l.length ≤ 100000) (ok : OkCells l) (P : Option Addr) (pc : Nat) (ns : List Int) (hm : ns.length ≤ maxLen) (w : World) (hr : RCells w A l) (ht : Tab w) (hn : RInts w P ns) :
    Calls Tryd.prog 11 #[lineV A l.length c size, .int .i64 f, .int .i64 t, .slice P ns.length pc] w fun e w' => ∃ g, w.heap.size ≤ g ∧ e = .returned (lineV (some ⟨g, 0, none⟩) l.length l.length size) ∧ Row w' g (eachP (applyC ns) l (loP f) (hiP l.length t - loP f)) ∧ Below w.heap.size w w' := by
  have hmf : ∀ (fn : Fn) (first cap : Array Value) (w : World), (Instr.makeFunc fn first cap).run Tryd.prog w = .ok (.func fn first cap) w := fun _ _ _ _ => rfl
  have HE := Lib.hid (fun W h (tW : Tab W) (nW : RInts W P ns) => each_any 34 (.slice P ns.length pc) (applyC ns) (fun args W => Tryd.call34 args W) A c l size f t hl W h (fun y hy V hb => apply1_any y (ok y hy).2 P pc ns hm V (tW.next hb) (nW.next hb)))
  have HR := Lib.hid (And.intro hr (And.intro ht hn))
  clear hr ht hn ok hm
  unfold lineV at *
  generalize ns.length = m at *
  generalize l.length = n at *
  generalize eachP _ l (loP f) (hiP n t - loP f) = L at *
  have HK := Lib.hid (KL.start w #[.slice A n c, .int .i64 size] #[.slice none 0 0, .int .i64 0])
  go_enter Tryd.func11, Tryd.ntmps11
  go_wp2_with fail
  refine (HE.out _ (HR.out.1.next HK.out.2.2) (HR.out.2.1.next HK.out.2.2) (HR.out.2.2.next HK.out.2.2)).mono ?_
  rintro e w1 ⟨g, hg, rfl, hrow, hb1⟩
  have hg3 : w.heap.size + 2 ≤ g := by simp at hg; omega
  have HK1 := Lib.hid (HK.out.next hb1)
  have HRow := Lib.hid hrow
  clear hg hrow hb1
  obtain ⟨c2, c3, f2, f3⟩ := KL.res HK1.out
  have HS := Lib.hid (KL.store2 HK1.out (.slice (some ⟨g, 0, none⟩) n n) (.int .i64 size))
  obtain ⟨e0, e1, _, _⟩ := KL.res HS.out
  go_wp2_with fail
  exact bodyPost_ret (v := .agg #[.slice (some ⟨g, 0, none⟩) n n, .int .i64 size]) (by simp [results, Tryd.results11, go_sem, e0, e1]) rfl ⟨g, by omega, rfl, Row.far2 HRow.out (by omega) _ _, HS.out.2.2⟩
set_option maxRecDepth 100000 in
set_option maxHeartbeats 4000000 in
theorem flipAll_any (A : Option Addr) (c : Nat) (l : List Cl) (size f t : Int) (hl : l.length ≤ 100000) (ok : OkCells l) (P : Option Addr) (pc : Nat) (ns : List Int) (hm : ns.length ≤ maxLen) (w : World) (hr : RCells w A l) (ht : Tab w) (hn : RInts w P ns) :
    Calls Tryd.prog 12 #[lineV A l.length c size, .int .i64 f, .int .i64 t, .slice P ns.length pc] w fun e w' => ∃ g, w.heap.size ≤ g ∧ e = .returned (lineV (some ⟨g, 0, none⟩) l.length l.length size) ∧ Row w' g (eachP (flipC ns) l (loP f) (hiP l.length t - loP f)) ∧ Below w.heap.size w w' := by
  have hmf : ∀ (fn : Fn) (first cap : Array Value) (w : World), (Instr.makeFunc fn first cap).run Tryd.prog w = .ok (.func fn first cap) w := fun _ _ _ _ => rfl
  have HE := Lib.hid (fun W h (tW : Tab W) (nW : RInts W P ns) => each_any 35 (.slice P ns.length pc) (flipC ns) (fun args W => Tryd.call35 args W) A c l size f t hl W h (fun y hy V hb => flip1_any y (ok y hy).2 P pc ns hm V (tW.next hb) (nW.next hb)))
  have HR := Lib.hid (And.intro hr (And.intro ht hn))
  clear hr ht hn ok hm
  unfold lineV at *
  generalize ns.length = m at *
  generalize l.length = n at *
  generalize eachP _ l (loP f) (hiP n t - loP f) = L at *
  have HK := Lib.hid (KL.start w #[.slice A n c, .int .i64 size] #[.slice none 0 0, .int .i64 0])
  go_enter Tryd.func12, Tryd.ntmps12
  go_wp2_with fail
  refine (HE.out _ (HR.out.1.next HK.out.2.2) (HR.out.2.1.next HK.out.2.2) (HR.out.2.2.next HK.out.2.2)).mono ?_
  rintro e w1 ⟨g, hg, rfl, hrow, hb1⟩
  have hg3 : w.heap.size + 2 ≤ g := by simp at hg; omega
  have HK1 := Lib.hid (HK.out.next hb1)
  have HRow := Lib.hid hrow
  clear hg hrow hb1
  obtain ⟨c2, c3, f2, f3⟩ := KL.res HK1.out
  have HS := Lib.hid (KL.store2 HK1.out (.slice (some ⟨g, 0, none⟩) n n) (.int .i64 size))
  obtain ⟨e0, e1, _, _⟩ := KL.res HS.out
  go_wp2_with fail
  exact bodyPost_ret (v := .agg #[.slice (some ⟨g, 0, none⟩) n n, .int .i64 size]) (by simp [results, Tryd.results12, go_sem, e0, e1]) rfl ⟨g, by omega, rfl, Row.far2 HRow.out (by omega) _ _, HS.out.2.2⟩
set_option maxRecDepth 100000 in
set_option maxHeartbeats 4000000 in
theorem keep_any (A : Option Addr) (c : Nat) (l : List Cl) (size f t : Int) (kept : Bool) (hl : l.length ≤ 100000) (w : World) (hr : RCells w A l) :
    Calls Tryd.prog 13 #[lineV A l.length c size, .int .i64 f, .int .i64 t, .bool kept] w fun e w' => ∃ g, w.heap.size ≤ g ∧ e = .returned (lineV (some ⟨g, 0, none⟩) l.length l.length size) ∧ Row w' g (eachP (keepC kept) l (loP f) (hiP l.length t - loP f)) ∧ Below w.heap.size w w' := by
  have hmf : ∀ (fn : Fn) (first cap : Array Value) (w : World), (Instr.makeFunc fn first cap).run Tryd.prog w = .ok (.func fn first cap) w := fun _ _ _ _ => rfl
  have HE := Lib.hid (fun b W h (hB : Blk W b 4 #[.bool kept]) => eachK_any 36 (.pointer (some ⟨b, 0, none⟩)) (keepC kept) (fun args W => Tryd.call36 args W) A c l size f t hl W h (fun y _ V hb => keep1_any y b kept V (hB.next hb)))
  have HR := Lib.hid hr
  clear hr
  unfold lineV at *
  generalize l.length = n at *
  generalize eachP _ l (loP f) (hiP n t - loP f) = L at *
  have hb0 : Below w.heap.size w (((w.alloc (.cells #[.slice A n c, .int .i64 size] 24)).alloc (.cells #[.bool kept] 4)).alloc (.cells #[.slice none 0 0, .int .i64 0] 24)) := (((Below.refl _ _).alloc (Nat.le_refl _) _).alloc (by simp) _).alloc (by simp; omega) _
  have HB0 := Lib.hid hb0
  have HBr := Lib.hid (Blk.new ((w.alloc (.cells #[.slice A n c, .int .i64 size] 24)).alloc (.cells #[.bool kept] 4)) 24 #[.slice none 0 0, .int .i64 0])
  have HBk : Hid (Blk (((w.alloc (.cells #[.slice A n c, .int .i64 size] 24)).alloc (.cells #[.bool kept] 4)).alloc (.cells #[.slice none 0 0, .int .i64 0] 24)) (w.heap.size + 1) 4 #[.bool kept]) := Lib.hid (by have h := (Blk.new (w.alloc (.cells #[.slice A n c, .int .i64 size] 24)) 4 #[.bool kept]).alloc (.cells #[.slice none 0 0, .int .i64 0] 24); simpa using h)
  clear hb0
  go_enter Tryd.func13, Tryd.ntmps13
  go_wp2_with fail
  refine (HE.out _ _ (HR.out.next HB0.out) HBk.out).mono ?_
  rintro e w1 ⟨g, hg, rfl, hrow, hb1⟩
  have hg3 : w.heap.size + 3 ≤ g := by simp at hg; omega
  have HB1 : Hid (Blk w1 (w.heap.size + 1 + 1) 24 #[.slice none 0 0, .int .i64 0]) := Lib.hid (by have h := Blk.next HBr.out hb1; simpa using h)
  have HBl := Lib.hid (HB0.out.trans (hb1.mono (by simp; omega)))
  have HRow := Lib.hid hrow
  clear hg hrow hb1
  have c2 : w1.cell? ⟨w.heap.size + 1 + 1, 0, none⟩ = some (.slice none 0 0) := HB1.out.cell 0
  have c3 : w1.cell? ⟨w.heap.size + 1 + 1, 1, none⟩ = some (.int .i64 0) := HB1.out.cell 1
  have f2 := HB1.out.frozen 0
  have f3 := HB1.out.frozen 1
  have HS := Lib.hid (Blk.set2 HB1.out (.slice (some ⟨g, 0, none⟩) n n) (.int .i64 size))
  have e0 := HS.out.cell 0
  have e1 := HS.out.cell 1
  simp only [List.getElem?_toArray, List.getElem?_cons_zero, List.getElem?_cons_succ] at e0 e1
  go_wp2_with fail
  exact bodyPost_ret (v := .agg #[.slice (some ⟨g, 0, none⟩) n n, .int .i64 size]) (by simp [results, Tryd.results13, go_sem, e0, e1]) rfl ⟨g, by omega, rfl, Row.far2 HRow.out (by omega) _ _, (HBl.out.setCell (by simp; omega) _).setCell (by simp; omega) _⟩
end Go.Proofs.YtflnjlcdpmmjlaaDoor

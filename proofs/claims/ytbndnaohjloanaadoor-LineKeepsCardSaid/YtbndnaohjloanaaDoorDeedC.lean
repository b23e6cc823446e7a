/-
  The deeds that are done with every cell of a span: renditions changed or turned over, cells kept or not.
-/
import Derived.Test.YtbndnaohjloanaaDoorDeedA
import Derived.Test.YtbndnaohjloanaaDoorLineL2
namespace Go.Proofs.YtbndnaohjloanaaDoor

open Go Go.RowKit

set_option maxRecDepth 100000 in
set_option maxHeartbeats 4000000 in
theorem change_any (A : Option Addr) (c : Nat) (l : List Cl) (size f t : Int) (hl : l.length ≤ 100000) (ok : OkCells l) (P : Option Addr) (pc : Nat) (ns : List Int) (hm : ns.length ≤ maxLen) (w : World) (hr : RCells w A l) (ht : Tab w) (hn : RInts w P ns) :
    Calls Tryd.prog 10 #[lineV A l.length c size, .int .i64 f, .int .i64 t, .slice P ns.length pc] w fun e w' => ∃ g, w.heap.size ≤ g ∧ e = .returned (lineV (some ⟨g, 0, none⟩) l.length l.length size) ∧ Row w' g (eachP (applyC ns) l (loP f) (hiP l.length t - loP f)) ∧ Below w.heap.size w w' := by
  have hmf : ∀ (fn : Fn) (first cap : Array Value) (w : World), (Instr.makeFunc fn first cap).run Tryd.prog w = .ok (.func fn first cap) w := fun _ _ _ _ => rfl
  have HE := Lib.hid (fun W h (tW : Tab W) (nW : RInts W P ns) => each_any 28 (.slice P ns.length pc) (applyC ns) (fun args W => Tryd.call28 args W) A c l size f t hl W h (fun y hy V hb => apply1_any y (ok y hy).2 P pc ns hm V (tW.next hb) (nW.next hb)))
  have HR := Lib.hid (And.intro hr (And.intro ht hn))
  clear hr ht hn ok hm
  unfold lineV at *
  generalize ns.length = m at *
  generalize l.length = n at *
  generalize eachP _ l (loP f) (hiP n t - loP f) = L at *
  have HK := Lib.hid (KL.start w #[.slice A n c, .int .i64 size] #[.slice none 0 0, .int .i64 0])
  go_enter Tryd.func10, Tryd.ntmps10
  go_wp2_with fail
  refine (HE.out _ (HR.out.1.next HK.out.2.2) (HR.out.2.1.next HK.out.2.2) (HR.out.2.2.next HK.out.2.2)).mono ?_
  rintro e w1 ⟨g, hg, rfl, hrow, hb1⟩
  have hg3 : w.heap.size + 2 ≤ g := by simp at hg; omega
  have HK1 := Lib.hid (HK.out.next hb1)
  have HRow := Lib.hid hrow
  clear hg hrow hb1
  obtain ⟨c2, c3, f2, f3⟩ := KL.res HK1.out
  have HS := Lib.hid (KL.store2 HK1.out (.slice (some ⟨g, 0, none⟩) n n) (.int .i64 size))
  obtain ⟨e0, e1, _, _⟩ := KL.res HS.out
  go_wp2_with fail
  exact bodyPost_ret (v := .agg #[.slice (some ⟨g, 0, none⟩) n n, .int .i64 size]) (by simp [results, Tryd.results10, go_sem, e0, e1]) rfl ⟨g, by omega, rfl, Row.far2 HRow.out (by omega) _ _, HS.out.2.2⟩


end Go.Proofs.YtbndnaohjloanaaDoor

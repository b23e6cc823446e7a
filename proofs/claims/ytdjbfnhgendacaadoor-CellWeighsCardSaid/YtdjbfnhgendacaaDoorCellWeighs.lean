/-
  CellWeighs holds, whatever the input: the card of the statement, with the table of parts tied to the program's text.
-/
import Derived.Test.YtdjbfnhgendacaaDoorCards
import Derived.Test.YtdjbfnhgendacaaDoorTie
import Derived.Test.YtdjbfnhgendacaaDoorFrameB
import Derived.Test.YtdjbfnhgendacaaDoorFrameC
import Derived.Test.YtdjbfnhgendacaaDoorCellF
import Derived.Test.YtdjbfnhgendacaaDoorCuts
namespace Go.Proofs.YtdjbfnhgendacaaDoor.cellWeighs
open Go.ChangeShapes Go.WideShapes Go.ChangeAt Go.RowKit
open Go.ChangeMaps (open_string)

/-- What is known of a world in the midst of the call: the cell's box, and that old memory is as it was. -/
def K1 (w : World) (x : Array Value) (w' : World) : Prop := Blk w' w.heap.size 44 x ∧ Below w.heap.size w w'
theorem K1.next {w W w' : World} {x : Array Value} (h : K1 w x W) (hb : Below W.heap.size W w') : K1 w x w' := ⟨h.1.next hb, h.2.trans (hb.mono h.2.size)⟩
theorem K1.drew {w W : World} {x : Array Value} (h : K1 w x W) : K1 w x W.drew := ⟨h.1, h.2.drew⟩
theorem K1.drewN {w W : World} {x : Array Value} (h : K1 w x W) (n : Nat) : K1 w x (W.drewN n) := ⟨h.1, below_drewN h.2 n⟩
theorem K1.alloc {w W : World} {x : Array Value} (h : K1 w x W) (o : Obj) : K1 w x (W.alloc o) := ⟨h.1.alloc o, h.2.alloc h.2.size o⟩
theorem K1.cells {w W : World} {g r : Int} {k : Bool} (h : K1 w #[.int .i32 g, .int .u8 r, .bool k] W) :
    W.cell? ⟨w.heap.size, 0, none⟩ = some (.int .i32 g) ∧ W.cell? ⟨w.heap.size, 1, none⟩ = some (.int .u8 r) ∧ W.cell? ⟨w.heap.size, 2, none⟩ = some (.bool k) := ⟨h.1.cell 0, h.1.cell 1, h.1.cell 2⟩

theorem rcells_one (w : World) (t : TypeId) (g r : Int) (k : Bool) : RCells (w.alloc (.cells #[.int .i32 g, .int .u8 r, .bool k] t)) (some ⟨w.heap.size, 0, none⟩) [⟨g, r, k⟩] := by
  refine ⟨rfl, fun _ => ⟨_, rfl, by simp, fun j u hu => ?_⟩⟩
  have hadd : (⟨w.heap.size, 0, none⟩ : Addr).add j = ⟨w.heap.size, j, none⟩ := by unfold Addr.add; split <;> simp_all
  rw [hadd, (Blk.new w t _).cell j]
  simpa [Cl.cells] using hu

set_option maxHeartbeats 4000000 in
theorem walk (c : Cl) (ok : c.ok) (w : World) (ht : Tab w) :
    Calls Tryd.prog 9 #[.agg #[.int .i32 c.g, .int .u8 c.r, .bool c.k]] w fun e w' => e = .returned (.bool true) ∧ Below w.heap.size w w' := by
  obtain ⟨g, r, k⟩ := c
  obtain ⟨g0, r0⟩ := ok
  have HA := Lib.hid (fun W ht => cellWeight_any g r k r0 W ht)
  have HB := Lib.hid (fun W => refCellWeight_any g r k g0 r0 W)
  have hok : OkCells [⟨g, r, k⟩] := fun x hx => by
    obtain rfl : x = ⟨g, r, k⟩ := by simpa using hx
    exact ⟨g0, r0⟩
  have hsum : ∀ (W : World) (A : Option Addr) (c d : Nat) (G : Nat) (T : TypeId), Tab W → RCells W A [⟨g, r, k⟩] → G = W.heap.size → Calls Tryd.prog 34 #[.slice (some ⟨G, 0, none⟩) 1 d] (W.alloc (.cells #[.slice A 1 c] T)) fun e w' => e = .returned (.int .i64 (Cl.w ⟨g, r, k⟩ % 65536)) ∧ Below W.heap.size W w' := by
    intro W A c d G T h hr hG
    have := sum_one A c d [⟨g, r, k⟩] (by simp) hok W h hr G hG T
    rwa [show sumC 0 [⟨g, r, k⟩] = Cl.w ⟨g, r, k⟩ % 65536 from by show (0 + Cl.w ⟨g, r, k⟩) % 65536 = _; rw [Int.zero_add]] at this
  have HS := Lib.hid hsum
  clear hsum hok g0 r0
  obtain ⟨x0, x1⟩ := Cl.w_range ⟨g, r, k⟩
  generalize Cl.w ⟨g, r, k⟩ = x at *
  go_enter Tryd.func9, Tryd.ntmps9
  go_wp2_with fail
  have hb0 : Below w.heap.size w (w.alloc (.cells #[.int .i32 g, .int .u8 r, .bool k] 44)) := (Below.refl _ _).alloc (Nat.le_refl _) _
  have hk0 : K1 w #[.int .i32 g, .int .u8 r, .bool k] (w.alloc (.cells #[.int .i32 g, .int .u8 r, .bool k] 44)) := ⟨Blk.new _ _ _, hb0⟩
  refine (awake2_any _ (ht.next hb0)).mono ?_
  rintro e w1 ⟨rfl, hb1⟩
  have hk1 := K1.next hk0 hb1
  obtain ⟨c0, c1, c2⟩ := K1.cells hk1
  have HK := Lib.hid hk1
  clear hk0 hk1 hb0 hb1
  go_wp2_with fail
  go_region_held3 (fun w' => w'.cell? ⟨w.heap.size, 0, none⟩ = some (.int .i32 g) ∧ w'.cell? ⟨w.heap.size, 1, none⟩ = some (.int .u8 r) ∧ w'.cell? ⟨w.heap.size, 2, none⟩ = some (.bool k)) (first | go_keep | exact K1.cells ‹K1 w _ w5› | exact K1.cells ‹K1 w _ w4› | exact K1.cells ‹K1 w _ w3› | exact K1.cells ‹K1 w _ w2›)
    (first
      | (go_at_call 32; refine (HA.out _ ?_).mono ?_; (exact ht.next (by first | exact HK.out.2 | exact HK.out.drew.2)); rintro e w2 ⟨rfl, hb2⟩; have L2 : K1 w #[.int .i32 g, .int .u8 r, .bool k] w2 := K1.next (by first | exact HK.out | exact HK.out.drew) hb2)
      | (go_at_call 33; refine (HB.out _).mono ?_; rintro e w5 ⟨rfl, hb5⟩; have L5 : K1 w #[.int .i32 g, .int .u8 r, .bool k] w5 := K1.next (by first | exact L4 | exact L4.drew) hb5)
      | (go_at_call 33; refine (HB.out _).mono ?_; rintro e w3 ⟨rfl, hb3⟩; have L3 : K1 w #[.int .i32 g, .int .u8 r, .bool k] w3 := K1.next (by first | exact L2 | exact L2.drew) hb3)
      | (go_at_call 34; refine (HS.out (w3.alloc (.cells #[.int .i32 g, .int .u8 r, .bool k] 44)) (some ⟨w3.heap.size, 0, none⟩) 1 1 (w3.heap.size + 1) 47 ?_ ?_ ?_).mono ?_; (exact ht.next (L3.alloc _).2); (exact rcells_one w3 44 g r k); (simp); rintro e w4 ⟨rfl, hb4⟩; have L4 : K1 w #[.int .i32 g, .int .u8 r, .bool k] w4 := K1.next (L3.alloc _) hb4))
  all_goals
    go_wp2_with fail
    go_ret
    exact ⟨by simp [Int.tmod_eq_emod_of_nonneg x0], by first | exact L5.2 | exact L5.drew.2 | exact (L5.drewN _).2⟩

/-- What the walk gives, for every argument and every world that holds the table. -/
theorem contract (H : Type) (enc : TypeId × Value → H) (W : World) (base : Nat) (args : Array Value) (ds gs : List (DataW H)) (before : List MemPlace)
    (hval : ∀ (j : Nat) t v, Tryd.f9.params[j]? = some t → args[j]? = some v → Value.okWide Tryd.prog W .any base t v)
    (hW : DataW.Whole enc Tryd.prog Tryd.f9.params.toList Rows.cellWeighsSpec.vars false W args.toList ds gs before) (hL : laidMetH Tryd.prog Rows.cellWeighsRow.laid W)
    (hreach : (DataW.weightsEach Tryd.prog (Tryd.f9.params.toList ++ []) (ds ++ gs)).all (· ≤ reachBytes) = true) :
    Calls Tryd.prog 9 args W fun e W' => ∃ v, e = .returned v ∧ Rows.cellWeighsSpec.post enc Tryd.prog Tryd.f9 false true false false W args v W' := by
  have hW' := hW
  have ht := tab_of hL
  have hlts : ∀ x ∈ before, x.block < W.heap.size := fun x hx => hW'.lt x hx
  obtain ⟨p, q, hA0, hV, rfl, hfz, hnd⟩ := hW
  have hA : DataW.TrodAll enc Tryd.prog W 0 (fun _ => true) true Tryd.f9.params.toList args.toList ds p := hA0
  rw [Tryd.params9] at hA hval hreach
  obtain ⟨v0, vs0, d0, ds0, p0, q0, hargs, rfl, rfl, h0, r0⟩ := trodAll_cons hA
  obtain ⟨rfl, rfl, rfl⟩ := trodAll_nil r0
  obtain rfl : args = #[v0] := by cases args; simp_all
  obtain ⟨rfl, rfl⟩ := trodVars_none hV
  obtain ⟨c0, rfl, ok0⟩ := cell_in (hval 0 44 v0 rfl rfl) h0
  clear hA0
  refine (walk c0 ok0 W ht).mono fun e W' ⟨he, hb⟩ => ?_
  subst he
  exact ⟨_, rfl, post_law laidOut (by kernel_rfl) (by kernel_rfl) rfl hW' rfl hb⟩

theorem laid_met (os : Os) : laidMet Tryd.prog Rows.cellWeighsRow.laid ((laidWorld os).forCall (fun _ _ => 0) ⟨#[], #[Value.agg #[.int .i32 0, .int .u8 0, .bool false]], []⟩).memory :=
  laidMet_of_run' 8 (by kernel_rfl) (by kernel_rfl)
theorem reads (os : Os) {H : Type} (enc : TypeId × Value → H) : ∃ places, DataW.whole enc Tryd.prog ((laidWorld os).forCall (fun _ _ => 0) ⟨#[], #[Value.agg #[.int .i32 0, .int .u8 0, .bool false]], []⟩).memory Tryd.f9.params.toList Rows.cellWeighsSpec.vars false (#[Value.agg #[.int .i32 0, .int .u8 0, .bool false]] : Array Value).toList 8 = some ([.agg [.lit (.int .i32 0), .lit (.int .u8 0), .lit (.bool false)]], [], places) :=
  ⟨[], by kernel_rfl⟩

set_option maxRecDepth 100000 in
theorem lifted (os : Os) (started : os.Started) (H : Type) (enc : TypeId × Value → H) (F : Stop.Interp) :
    ReturnsInHanded {} Tryd.checked os 9 .any ((OpenSpec.ofChange Rows.cellWeighsSpec).preRow enc Tryd.prog Tryd.f9 Rows.cellWeighsRow.domain false Rows.cellWeighsRow.laid) (((OpenSpec.ofChange Rows.cellWeighsSpec).at F).post enc Tryd.prog Tryd.f9 false true false false) := by
  obtain ⟨places, hx⟩ := reads os enc
  refine returnsInHanded_of_row (C := Tryd.checked) (s := OpenSpec.ofChange Rows.cellWeighsSpec) own started (by kernel_rfl) Tryd.func9
    (witness_row_at (enc := enc) (C := Tryd.checked) false (laidWorld os) #[Value.agg #[.int .i32 0, .int .u8 0, .bool false]] rfl (by kernel_rfl) (by kernel_rfl) (by kernel_rfl)
      (OpenSpec.preRow_of_cond 8 hx (by kernel_rfl) (fun k hk => by cases hk) (by kernel_rfl) (laid_met os))) ?_
  intro W base args ds gs before hval hW _ _ hreach hL _ _
  exact contract H enc W base args ds gs before hval hW hL hreach

theorem said : Rows.CellWeighsSaid :=
  OpenClaim.holds_of_cond 9 Tryd.f9 rfl rfl rfl rfl rfl rfl rfl ⟨rfl, rfl, rfl, rfl, rfl⟩ rfl rfl rfl rfl rfl (by kernel_rfl) Tryd.func9 (by kernel_rfl)
    (of_decide_eq_true (by kernel_rfl)) (by unfold Func.isWrapper; first | (rw [if_pos (by decide +kernel)]; kernel_rfl) | (rw [if_neg (by decide +kernel)]; exact ⟨rfl, rfl⟩))
    (fun os started H enc _ F => by rw [OpenClaim.pre_eq_preRow]; exact lifted os started H enc F)

theorem plain (f : FuncId) (fn : Func) (hf : Tryd.pinned.checked.prog.funcNamed "phosphor/phosphorlaw02.CellWeighs" = some f) (hfn : Tryd.pinned.checked.prog.funcs[f]? = some fn) :
    false = Tryd.pinned.checked.prog.looks [] ∧ ∀ (j : Nat) t, fn.params[j]? = some t → Tryd.pinned.checked.prog.wantsStandIn t = false := by
  obtain rfl : f = 9 := Option.some.inj ((show Tryd.prog.funcNamed "phosphor/phosphorlaw02.CellWeighs" = some 9 by kernel_rfl).symm.trans hf) |>.symm
  obtain rfl : fn = Tryd.f9 := (Option.some.inj (Tryd.func9.symm.trans hfn)).symm
  refine ⟨by kernel_rfl, fun j t ht => ?_⟩
  rw [Tryd.params9] at ht
  have hm : t ∈ [44] := by simpa using Array.mem_of_getElem? ht
  have hall : ([44].all fun u => !Tryd.prog.wantsStandIn u) = true := by kernel_rfl
  exact (show Tryd.prog.wantsStandIn t = false by simpa using List.all_eq_true.1 hall t hm)

/-- The card. -/
theorem card : Rows.CellWeighsCardSaid :=
  Claim7.holds_tied_plain_at .later [] _ _ _ _ said (fun _ h => by cases h) (by kernel_rfl) (fun _ h => by cases h) cellWeighs_row_tie rfl ⟨rfl, rfl⟩ (by kernel_rfl) rfl plain (by kernel_rfl)
#print axioms card
end Go.Proofs.YtdjbfnhgendacaaDoor.cellWeighs

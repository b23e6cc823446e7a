/-
  CellSums holds, whatever the input: the card of the statement, with the table of parts tied to the program's text.
-/
import Derived.Test.YtdjbfnhgendacaaDoorCards
import Derived.Test.YtdjbfnhgendacaaDoorTie
import Derived.Test.YtdjbfnhgendacaaDoorFrameB
import Derived.Test.YtdjbfnhgendacaaDoorFrameC
import Derived.Test.YtdjbfnhgendacaaDoorCellF
namespace Go.Proofs.YtdjbfnhgendacaaDoor.cellSums
open Go.ChangeShapes Go.WideShapes Go.ChangeAt Go.RowKit
open Go.ChangeMaps (open_string)

set_option maxHeartbeats 2000000 in
theorem walk (A : Option Addr) (c : Nat) (l0 : List Cl) (hl0 : l0.length ≤ maxLen) (hc0 : l0.length ≤ c) (ok0 : OkCells l0) (B : Option Addr) (d : Nat) (m0 : List Cl) (hm0 : m0.length ≤ maxLen) (hd0 : m0.length ≤ d) (okm0 : OkCells m0)
    (w : World) (ht : Tab w) (hr0 : RCells w A l0) (hs0 : RCells w B m0) :
    Calls Tryd.prog 10 #[.slice A l0.length c, .slice B m0.length d] w fun e w' => e = .returned (.bool true) ∧ Below w.heap.size w w' := by
  have HC0 := Lib.hid (fun W => cut_any A c l0 hl0 hc0 2000 (by omega) W)
  have HC1 := Lib.hid (fun W => cut_any B d m0 hm0 hd0 2000 (by omega) W)
  have hr : RCells w A (l0.take 2000) := hr0.take 2000
  have hs : RCells w B (m0.take 2000) := hs0.take 2000
  have hok : OkCells (l0.take 2000) := fun x hx => ok0 x (List.mem_of_mem_take hx)
  have hok' : OkCells (m0.take 2000) := fun x hx => okm0 x (List.mem_of_mem_take hx)
  have hl : (l0.take 2000).length ≤ 2000 := by rw [List.length_take]; omega
  have hm : (m0.take 2000).length ≤ 2000 := by rw [List.length_take]; omega
  generalize l0.take 2000 = l at *
  generalize m0.take 2000 = m at *
  clear hr0 hs0 ok0 okm0
  obtain ⟨i0, hi0, hz0, hz1, hz2⟩ := info_parts info_cell
  have HI := Lib.hid hi0; have HZ0 := Lib.hid hz0; have HZ1 := Lib.hid hz1; have HZ2 := Lib.hid hz2
  clear hi0 hz0 hz1 hz2
  have HOk := Lib.hid hok; have HOk' := Lib.hid hok'
  have HApp : Hid (OkCells (l ++ m)) := Lib.hid (fun x hx => (List.mem_append.1 hx).elim (hok x) (hok' x))
  clear hok hok'
  obtain ⟨x0, x1⟩ := sumC_range l (s := 0) (by omega) (by omega)
  obtain ⟨y0, y1⟩ := sumC_range m (s := 0) (by omega) (by omega)
  have hz : sumC 0 (l ++ m) = (sumC 0 l + sumC 0 m) % 65536 := by rw [sumC_app, sumC_from m x0 x1]
  have hLl : (l ++ m).length ≤ 4000 := by rw [List.length_append]; omega
  have hS1 := fun W ht hr g hg => sum_one A c 1 l (by omega) HOk.out W ht hr g hg 47
  have hS2 := fun W ht hr g hg => sum_one B d 1 m (by omega) HOk'.out W ht hr g hg 47
  have hS3 := fun W ht hr hr' g hg => sum_two A B c d 2 l m (by omega) (by omega) HOk.out HOk'.out W ht hr hr' g hg 47
  have hS4 := fun W ht hr hr' g hg => neg_two A B c d 2 l m (by omega) (by omega) HOk.out HOk'.out W ht hr hr' g hg 47
  have hS5 := fun W hr => refSum_any A c l (by unfold maxLen; omega) HOk.out W hr
  have hS6 := fun W ht => sum_any none 0 [] (by simp) (fun _ h => by simp at h) W ht (rrows_nil W)
  rw [show sumR 0 [] = 0 from rfl] at hS6
  generalize hL : l ++ m = L at *
  have HL := Lib.hid hL
  clear hL
  generalize sumC 0 l = x at *
  generalize sumC 0 m = y at *
  generalize hzz : sumC 0 L = z at *
  have HZZ := Lib.hid hzz
  clear hzz
  have z0 : 0 ≤ z ∧ z < 65536 := by omega
  obtain ⟨z0, z1⟩ := z0
  have HS1 := Lib.hid hS1; have HS2 := Lib.hid hS2; have HS3 := Lib.hid hS3; have HS4 := Lib.hid hS4; have HS5 := Lib.hid hS5; have HS6 := Lib.hid hS6
  clear hS1 hS2 hS3 hS4 hS5 hS6
  have HZ := Lib.hid hz
  clear hz
  go_enter Tryd.func10, Tryd.ntmps10
  go_wp2_with fail
  refine (awake2_any _ ht).mono ?_
  rintro e w1 ⟨rfl, hb⟩
  go_wp2_with fail
  refine (HC0.out _).mono ?_
  rintro e w2 ⟨rfl, hb'⟩
  replace hb := hb.trans (hb'.mono hb.size); clear hb'
  go_wp2_with fail
  refine (HC1.out _).mono ?_
  rintro e w3 ⟨rfl, hb'⟩
  replace hb := hb.trans (hb'.mono hb.size); clear hb'
  go_wp2_with fail
  refine (cells_any A c l (by omega) _ (hr.next hb)).mono ?_
  rintro e w4 ⟨v, rfl, hown, hb'⟩
  have hbase := hb.size
  have h34 := hb'.size
  replace hb := hb.trans (hb'.mono hb.size); clear hb'
  have HR : Hid (Reads w4 w.heap.size 3 B m.length (m.flatMap Cl.cells)) := Lib.hid (Reads.below hs hb)
  have HO := Lib.hid hown
  clear hown
  have hsz4 := hb.size
  go_wp2_with (at_builtin; refine wpList_append_any _ rfl _ _ 47 rfl _ 44 i0 _ 3 8 Tryd.underlying47 HI.out HZ0.out HZ1.out HZ2.out rfl (by decide) _ _ _ rfl HO.out w.heap.size B m.length d _ rfl HR.out (cells_one m) (by unfold maxLen; omega) (by omega) h34 ?_; intro v' w5 hown5 hg5 hat5)
  have h5 : OCells w5 w3.heap.size v' L := by rw [← HL.out]; simpa [OCells] using hown5
  replace hb := hb.grown hg5 hb.size (fun k hk => Nat.le_trans hbase (HO.out.lt k hk).1)
  clear hown5 hat5 hg5 HO HR
  obtain ⟨A5, c5, rfl, _⟩ := h5.form
  have hr5 := h5.reads
  clear h5
  refine (HS1.out _ (ht.next hb) (hr.next hb) _ rfl).mono ?_
  rintro e w6 ⟨rfl, hb'⟩
  replace hr5 := hr5.next hb'
  replace hb := hb.trans (hb'.mono hb.size); clear hb'
  go_wp2_with fail
  refine (HS2.out _ (ht.next hb) (hs.next hb) _ rfl).mono ?_
  rintro e w7 ⟨rfl, hb'⟩
  replace hr5 := hr5.next hb'
  replace hb := hb.trans (hb'.mono hb.size); clear hb'
  go_wp2_with fail
  refine (sum_one A5 c5 1 L (by omega) HApp.out _ (ht.next hb) hr5 _ rfl 47).mono ?_
  rw [HZZ.out]
  rintro e w8 ⟨rfl, hb'⟩
  replace hb := hb.trans (hb'.mono hb.size); clear hb'
  clear hr5
  go_wp2_with fail
  refine (HS5.out _ (hr.next hb)).mono ?_
  rintro e w4 ⟨rfl, hb'⟩
  replace hb := hb.trans (hb'.mono hb.size); clear hb'
  have hne : (z != (x + y) % 65536) = false := by rw [HZ.out]; simp
  go_wp2_with fail
  refine (HS3.out _ (ht.next hb) (hr.next hb) (hs.next hb) _ rfl).mono ?_
  rintro e w10 ⟨rfl, hb'⟩
  replace hb := hb.trans (hb'.mono hb.size); clear hb'
  go_wp2_with fail
  refine (HS6.out _ (ht.next hb)).mono ?_
  rintro e w5 ⟨rfl, hb'⟩
  replace hb := hb.trans (hb'.mono hb.size); clear hb'
  go_wp2_with fail
  refine (HS4.out _ (ht.next hb) (hr.next hb) (hs.next hb) _ rfl).mono ?_
  rintro e w12 ⟨rfl, hb'⟩
  replace hb := hb.trans (hb'.mono hb.size); clear hb'
  have n0 : 0 ≤ (65536 - z) % 65536 ∧ (65536 - z) % 65536 < 65536 ∧ ((65536 - z) % 65536 + z) % 65536 = 0 := by omega
  obtain ⟨n0, n1, n2⟩ := n0
  generalize (65536 - z) % 65536 = q at *
  have hq : ((q + z) % 65536 == 0) = true := by simpa using n2
  clear n2
  go_wp2_with fail
  go_ret
  exact ⟨rfl, hb⟩

/-- What the walk gives, for every argument and every world that holds the table. -/
theorem contract (H : Type) (enc : TypeId × Value → H) (W : World) (base : Nat) (args : Array Value) (ds gs : List (DataW H)) (before : List MemPlace)
    (hval : ∀ (j : Nat) t v, Tryd.f10.params[j]? = some t → args[j]? = some v → Value.okWide Tryd.prog W .any base t v)
    (hW : DataW.Whole enc Tryd.prog Tryd.f10.params.toList Rows.cellSumsSpec.vars false W args.toList ds gs before) (hL : laidMetH Tryd.prog Rows.cellSumsRow.laid W)
    (hreach : (DataW.weightsEach Tryd.prog (Tryd.f10.params.toList ++ []) (ds ++ gs)).all (· ≤ reachBytes) = true) :
    Calls Tryd.prog 10 args W fun e W' => ∃ v, e = .returned v ∧ Rows.cellSumsSpec.post enc Tryd.prog Tryd.f10 false true false false W args v W' := by
  have hW' := hW
  have ht := tab_of hL
  have hlts : ∀ x ∈ before, x.block < W.heap.size := fun x hx => hW'.lt x hx
  obtain ⟨p, q, hA0, hV, rfl, hfz, hnd⟩ := hW
  have hA : DataW.TrodAll enc Tryd.prog W 0 (fun _ => true) true Tryd.f10.params.toList args.toList ds p := hA0
  rw [Tryd.params10] at hA hval hreach
  obtain ⟨v0, vs0, d0, ds0, p0, q0, hargs, rfl, rfl, h0, r0⟩ := trodAll_cons hA
  obtain ⟨v1, vs1, d1, ds1, p1, q1, rfl, rfl, rfl, h1, r1⟩ := trodAll_cons r0
  obtain ⟨rfl, rfl, rfl⟩ := trodAll_nil r1
  obtain rfl : args = #[v0, v1] := by cases args; simp_all
  obtain ⟨rfl, rfl⟩ := trodVars_none hV
  obtain ⟨b0, len0, cap0, rfl⟩ := okWide_slice Tryd.underlying47 (hval 0 47 v0 rfl rfl)
  obtain ⟨l0, hlen0, hm0, hc0, ok0, hri0⟩ := cells_in h0
  subst hlen0
  obtain ⟨b1, len1, cap1, rfl⟩ := okWide_slice Tryd.underlying47 (hval 1 47 v1 rfl rfl)
  obtain ⟨l1, hlen1, hm1, hc1, ok1, hri1⟩ := cells_in h1
  subst hlen1
  clear hA0
  refine (walk b0 cap0 l0 hm0 hc0 ok0 b1 cap1 l1 hm1 hc1 ok1 W ht hri0 hri1).mono fun e W' ⟨he, hb⟩ => ?_
  subst he
  exact ⟨_, rfl, post_law laidOut (by kernel_rfl) (by kernel_rfl) rfl hW' rfl hb⟩

theorem laid_met (os : Os) : laidMet Tryd.prog Rows.cellSumsRow.laid ((laidWorld os).forCall (fun _ _ => 0) ⟨#[], #[Value.slice none 0 0, Value.slice none 0 0], []⟩).memory :=
  laidMet_of_run' 8 (by kernel_rfl) (by kernel_rfl)
theorem reads (os : Os) {H : Type} (enc : TypeId × Value → H) : ∃ places, DataW.whole enc Tryd.prog ((laidWorld os).forCall (fun _ _ => 0) ⟨#[], #[Value.slice none 0 0, Value.slice none 0 0], []⟩).memory Tryd.f10.params.toList Rows.cellSumsSpec.vars false (#[Value.slice none 0 0, Value.slice none 0 0] : Array Value).toList 8 = some ([.nil, .nil], [], places) :=
  ⟨[], by kernel_rfl⟩

set_option maxRecDepth 100000 in
theorem lifted (os : Os) (started : os.Started) (H : Type) (enc : TypeId × Value → H) (F : Stop.Interp) :
    ReturnsInHanded {} Tryd.checked os 10 .any ((OpenSpec.ofChange Rows.cellSumsSpec).preRow enc Tryd.prog Tryd.f10 Rows.cellSumsRow.domain false Rows.cellSumsRow.laid) (((OpenSpec.ofChange Rows.cellSumsSpec).at F).post enc Tryd.prog Tryd.f10 false true false false) := by
  obtain ⟨places, hx⟩ := reads os enc
  refine returnsInHanded_of_row (C := Tryd.checked) (s := OpenSpec.ofChange Rows.cellSumsSpec) own started (by kernel_rfl) Tryd.func10
    (witness_row_at (enc := enc) (C := Tryd.checked) false (laidWorld os) #[Value.slice none 0 0, Value.slice none 0 0] rfl (by kernel_rfl) (by kernel_rfl) (by kernel_rfl)
      (OpenSpec.preRow_of_cond 8 hx (by kernel_rfl) (fun k hk => by cases hk) (by kernel_rfl) (laid_met os))) ?_
  intro W base args ds gs before hval hW _ _ hreach hL _ _
  exact contract H enc W base args ds gs before hval hW hL hreach

theorem said : Rows.CellSumsSaid :=
  OpenClaim.holds_of_cond 10 Tryd.f10 rfl rfl rfl rfl rfl rfl rfl ⟨rfl, rfl, rfl, rfl, rfl⟩ rfl rfl rfl rfl rfl (by kernel_rfl) Tryd.func10 (by kernel_rfl)
    (of_decide_eq_true (by kernel_rfl)) (by unfold Func.isWrapper; first | (rw [if_pos (by decide +kernel)]; kernel_rfl) | (rw [if_neg (by decide +kernel)]; exact ⟨rfl, rfl⟩))
    (fun os started H enc _ F => by rw [OpenClaim.pre_eq_preRow]; exact lifted os started H enc F)

theorem plain (f : FuncId) (fn : Func) (hf : Tryd.pinned.checked.prog.funcNamed "phosphor/phosphorlaw02.CellSums" = some f) (hfn : Tryd.pinned.checked.prog.funcs[f]? = some fn) :
    false = Tryd.pinned.checked.prog.looks [] ∧ ∀ (j : Nat) t, fn.params[j]? = some t → Tryd.pinned.checked.prog.wantsStandIn t = false := by
  obtain rfl : f = 10 := Option.some.inj ((show Tryd.prog.funcNamed "phosphor/phosphorlaw02.CellSums" = some 10 by kernel_rfl).symm.trans hf) |>.symm
  obtain rfl : fn = Tryd.f10 := (Option.some.inj (Tryd.func10.symm.trans hfn)).symm
  refine ⟨by kernel_rfl, fun j t ht => ?_⟩
  rw [Tryd.params10] at ht
  have hm : t ∈ [47, 47] := by simpa using Array.mem_of_getElem? ht
  have hall : ([47, 47].all fun u => !Tryd.prog.wantsStandIn u) = true := by kernel_rfl
  exact (show Tryd.prog.wantsStandIn t = false by simpa using List.all_eq_true.1 hall t hm)

/-- The card. -/
theorem card : Rows.CellSumsCardSaid :=
  Claim7.holds_tied_plain_at .later [] _ _ _ _ said (fun _ h => by cases h) (by kernel_rfl) (fun _ h => by cases h) cellSums_row_tie rfl ⟨rfl, rfl⟩ (by kernel_rfl) rfl plain (by kernel_rfl)
#print axioms card
end Go.Proofs.YtdjbfnhgendacaaDoor.cellSums

/-
  What never changes of a function, found by its number; its name, its level.
-/
import Derived.Test.YtegcebdnofnigaaDoorGatB
import Derived.Laws.Tables
import Derived.Laws.Rows
namespace Go.Proofs.YtegcebdnofnigaaDoor
open Go Go.RowKit

theorem fcUnder : Tryd.prog.underlying 34 = some (.struct (Tryd.prog.fieldsOf 34)) := by kernel_rfl
theorem fcSize : (Tryd.prog.info? 34).map (·.size) = some 4 := by kernel_rfl
def Fct.arr (x : Fct) : Array Value := #[.int .i64 x.n, .string x.nm, .string x.idb, .int .i64 x.lv]
theorem arr_one (x : Fct) : x.arr.all (·.oneCell') = true := by simp [Fct.arr, Value.oneCell']
/-- The box that holds the result, and all that was there. -/
structure FacW (w W : World) (x : Fct) : Prop where
  box : Blk W w.heap.size 34 x.arr
  bel : Below w.heap.size w W
  lt : w.heap.size < W.heap.size
theorem FacW.next {w W W2 : World} {x : Fct} (h : FacW w W x) (hb : Below W.heap.size W W2) : FacW w W2 x := ⟨h.box.next hb, h.bel.trans (hb.mono h.bel.size), Nat.lt_of_lt_of_le h.lt hb.size⟩
theorem FacW.set {w W : World} {x : Fct} (h : FacW w W x) (y : Fct) : FacW w (W.setRow w.heap.size y.arr) y := by
  have hb := h.box
  refine ⟨setRow_heap W w.heap.size _ _ _ _ hb, ⟨h.bel.os, h.bel.tape, h.bel.output, by simpa [World.setRow] using h.bel.size, fun k hk => ?_⟩, by simpa [World.setRow] using h.lt⟩
  rw [← h.bel.block k hk]
  show (W.heap.modify w.heap.size _)[k]? = _
  rw [Array.getElem?_modify, if_neg (by omega)]
theorem fac_ret {w W : World} {x : Fct} (h : FacW w W x) (fn : Func) (p : Tmp) (hr : fn.results = #[.cell p 34]) (tmps : Array Value) (hp : tmps.getD p undef = .pointer (some ⟨w.heap.size, 0, none⟩)) : (results fn tmps).run Tryd.prog W = .ok x.val W :=
  results_cell_row hr tmps W w.heap.size 34 x.arr (0, 0) _ hp h.box fcUnder rfl fcSize
set_option maxRecDepth 100000 in
set_option maxHeartbeats 8000000 in
theorem fact_any (f : Int) (w : World) : Calls Tryd.prog 9 #[.int .i64 f] w fun e w' => e = .returned (factF f).val ∧ Below w.heap.size w w' := by
  have HW0 := Lib.hid (show FacW w (w.alloc (.cells #[.int .i64 0, .string ⟨#[]⟩, .string ⟨#[]⟩, .int .i64 0] 34)) zeroF from ⟨Blk.new _ _ _, (Below.refl _ _).alloc (Nat.le_refl _) _, by simp⟩)
  have HS := Lib.hid (show FacW w (w.alloc (.cells #[.int .i64 112, .string ⟨#[83, 67, 83]⟩, .string ⟨#[]⟩, .int .i64 1] 34)) scsF from ⟨Blk.new _ _ _, (Below.refl _ _).alloc (Nat.le_refl _) _, by simp⟩)
  by_cases h112 : f = 112
  · subst h112
    rw [show factF 112 = scsF from rfl]
    go_enter Tryd.func9, Tryd.ntmps9
    go_wp2_with fail
    (try simp only [Exit.inBlock, Exit.then])
    exact bodyPost_ret (fac_ret HS.out _ _ rfl _ rfl) rfl ⟨rfl, HS.out.bel⟩
  · have hne : (f == 112) = false := by simpa using h112
    obtain ⟨X, hX⟩ : ∃ X, factF f = X := ⟨_, rfl⟩
    have hX2 : getF f (restF 2) = X := by
      have e : factF f = getF f (restF 2) := if_neg h112
      rw [← e]; exact hX
    rw [hX]
    have HX := Lib.hid hX2
    clear hX hX2 HS
    go_enter Tryd.func9, Tryd.ntmps9
    go_wp2_with fail
    generalize w.alloc (.cells #[.int .i64 0, .string ⟨#[]⟩, .string ⟨#[]⟩, .int .i64 0] 34) = w0 at *
    go_loopw [3] (fun k wr => ∃ q : Nat, 2 ≤ q ∧ q ≤ 6 ∧ k = .int .i64 q ∧ Hid (getF f (restF q) = X) ∧ FacW w wr zeroF) (fun k _ => 6 - (intOf k).toNat)
    case atStart => exact ⟨2, by omega, by omega, rfl, HX, HW0.out⟩
    case round =>
      obtain ⟨q, hq2, hq6, rfl, hg, hw⟩ := hrel
      have HW := Lib.hid hw
      clear hw HX HW0
      have hwk : IntKind.i64.wrap ((q : Int) + 1) = (q : Int) + 1 := IntWalk.i64_in _ (by omega)
      by_cases hq5 : q ≤ 5
      · have c1 : (q : Int) ≤ 5 := by omega
        have hst := rest_step q ⟨hq2, hq5⟩
        have hln := fk_len q
        have HF := Lib.hid (fun W => factsOf_any q ⟨hq2, hq5⟩ W)
        rw [hst] at hg
        generalize fkF q = l at *
        generalize hrq : restF (q + 1) = r at *
        replace hrq := Lib.hid hrq
        clear hst
        go_wp2_with fail
        refine (HF.out _).mono ?_
        rintro e w2 ⟨v, rfl, ho, hb⟩
        obtain ⟨A, c, rfl, hr⟩ := OFc.reads ho
        have HR := Lib.hid hr
        have HW2 := Lib.hid (HW.out.next hb)
        clear ho hr hb HF HW
        go_wp2_with fail
        go_loopw [16] (fun j wr => ∃ i : Nat, i ≤ l.length ∧ j = .int .i64 i ∧ Hid (getF f (l.drop i ++ r) = X) ∧ FacW w wr zeroF ∧ Below w2.heap.size w2 wr) (fun j _ => l.length - (intOf j).toNat)
        case atStart => exact ⟨0, by omega, rfl, hg, HW2.out, Below.refl _ _⟩
        case round =>
          obtain ⟨i, hi, rfl, hgi, hwi, hbi⟩ := hrel
          have HWi := Lib.hid hwi
          have HRi := Lib.hid (HR.out.next hbi)
          have HBi := Lib.hid hbi
          clear hwi hbi hg
          by_cases hlt : i < l.length
          · have hgd := getF_drop f l r i hlt
            obtain ⟨ad, rfl, _⟩ := HRi.out.2 (by omega)
            obtain ⟨s0, s1, s2, s3⟩ := HRi.out.four hlt
            have hwi1 : IntKind.i64.wrap ((i : Int) + 1) = (i : Int) + 1 := IntWalk.i64_in _ (by omega)
            have m0 : (0 : Int) ≤ (i : Int) := by omega
            have m1 : ((i : Int) < (l.length : Int)) = True := eq_true (by omega)
            generalize l[i] = x at *
            obtain ⟨xn, xm, xi, xl⟩ := x
            simp only at s0 s1 s2 s3 hgd
            by_cases he : xn = f
            · subst he
              rw [if_pos rfl] at hgd
              have HXe : Hid (X = ⟨xn, xm, xi, xl⟩) := Lib.hid (by rw [← hgi.out, hgd])
              have HN := Lib.hid (Blk.new wr 34 #[.int .i64 xn, .string xm, .string xi, .int .i64 xl])
              have HWn := Lib.hid (HWi.out.next (W2 := wr.alloc (.cells #[.int .i64 xn, .string xm, .string xi, .int .i64 xl] 34)) ((Below.refl _ _).alloc (Nat.le_refl _) _))
              have hbq : (xn == xn) = true := by simp
              clear hgd hgi
              go_upto_region 10 with fail
              go_wp2_with (first | (refine wpList_load_row rfl _ _ rfl wr.heap.size rfl _ _ (0, 0) _ HN.out fcUnder rfl fcSize ?_) | (refine wpList_store_row rfl _ _ _ rfl w.heap.size (Fct.arr ⟨xn, xm, xi, xl⟩) rfl rfl _ _ HWn.out.box fcSize rfl (arr_one _) ?_))
              (try simp only [Exit.inBlock, Exit.then])
              rw [HXe.out]
              exact bodyPost_ret (fac_ret (HWn.out.set ⟨xn, xm, xi, xl⟩) _ _ rfl _ rfl) rfl ⟨rfl, (HWn.out.set ⟨xn, xm, xi, xl⟩).bel⟩
            · rw [if_neg he] at hgd
              have HG2 : Hid (getF f (l.drop (i + 1) ++ r) = X) := Lib.hid (by rw [← hgi.out, hgd])
              have hbq : (xn == f) = false := by simpa using he
              have hal : Below wr.heap.size wr (wr.alloc (.cells #[.int .i64 xn, .string xm, .string xi, .int .i64 xl] 34)) := (Below.refl _ _).alloc (Nat.le_refl _) _
              have HWn := Lib.hid (HWi.out.next hal)
              have HBn := Lib.hid (HBi.out.trans (hal.mono HBi.out.size))
              clear hgd hgi hal
              go_wp2_with fail
              go_roundw
              case rel => exact ⟨i + 1, by omega, by go_num, HG2, HWn.out, HBn.out⟩
              case measure => simp [intOf]; omega
          · obtain rfl : i = l.length := by omega
            have m1 : ((l.length : Int) < (l.length : Int)) = False := eq_false (by omega)
            have HG2 : Hid (getF f (restF (q + 1)) = X) := Lib.hid (by rw [hrq.out]; have := hgi.out; rw [List.drop_length, List.nil_append] at this; exact this)
            clear hgi
            go_wp2_with fail
            go_roundw
            case rel => exact ⟨q + 1, by omega, by omega, by go_num, HG2, HWi.out⟩
            case measure => simp [intOf]; omega
      · have c1 : ¬ (q : Int) ≤ 5 := by omega
        obtain rfl : q = 6 := by omega
        have HXe : Hid (X = zeroF) := Lib.hid (hg.out.symm)
        clear hg
        go_wp2_with (refine wpList_store_row rfl _ _ _ rfl w.heap.size zeroF.arr rfl rfl _ _ HW.out.box fcSize rfl (arr_one _) ?_)
        (try simp only [Exit.inBlock, Exit.then])
        rw [HXe.out]
        exact bodyPost_ret (fac_ret (HW.out.set zeroF) _ _ rfl _ rfl) rfl ⟨rfl, (HW.out.set zeroF).bel⟩
end Go.Proofs.YtegcebdnofnigaaDoor

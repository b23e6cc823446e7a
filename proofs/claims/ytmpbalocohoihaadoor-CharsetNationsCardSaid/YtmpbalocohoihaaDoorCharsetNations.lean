/-
  CharsetNations holds, whatever the input: the card of the statement, with the table of the sets' faces tied to the program's text.
-/
import Derived.Test.YtmpbalocohoihaaDoorCards
import Derived.Test.YtmpbalocohoihaaDoorTie
import Derived.Test.YtmpbalocohoihaaDoorFrameV
import Derived.Test.YtmpbalocohoihaaDoorChsJ
namespace Go.Proofs.YtmpbalocohoihaaDoor.charsetNations
open Go.ChangeShapes Go.WideShapes Go.ChangeAt Go.RowKit
open Go.ChangeMaps (open_string)

def cntN (k : Nat) : Nat → Nat
  | 0 => 0
  | c + 1 => cntN k c + (if 33 ≤ c ∧ gP k c ≠ c then 1 else 0)
theorem cntN_succ (k c : Nat) : cntN k (c + 1) = cntN k c + (if 33 ≤ c ∧ gP k c ≠ c then 1 else 0) := rfl
theorem cnt_start (k : Nat) : ∀ c, c ≤ 33 → cntN k c = 0 := by
  intro c
  induction c with
  | zero => intro _; rfl
  | succ c ih => intro h; rw [cntN_succ, ih (by omega), if_neg (by omega)]
theorem cnt_le (k : Nat) : ∀ c, cntN k c ≤ c := by
  intro c
  induction c with
  | zero => exact Nat.le_refl _
  | succ c ih => rw [cntN_succ]; split <;> omega
def cntOk (k : Nat) : Bool := decide (0 < cntN k 127) && decide (cntN k 127 ≤ 12)
theorem cnt_ok : ∀ k, k < 18 → 6 ≤ k → cntOk k = true := by decide +kernel
def twelve : List Nat := [35, 64, 91, 92, 93, 94, 95, 96, 123, 124, 125, 126]
theorem nat_twelve : ∀ k, k < 18 → 6 ≤ k → ((List.range 127).all fun c => decide (c < 33) || (gP k c == (c : Int)) || twelve.contains c) = true := by decide +kernel
theorem nat_part (k : Nat) (hk : k < 18) (h6 : 6 ≤ k) (c : Nat) (h1 : 33 ≤ c) (h2 : c < 127) (hg : gP k c ≠ c) : c = 35 ∨ c = 64 ∨ c = 91 ∨ c = 92 ∨ c = 93 ∨ c = 94 ∨ c = 95 ∨ c = 96 ∨ c = 123 ∨ c = 124 ∨ c = 125 ∨ c = 126 := by
  have h := List.all_eq_true.1 (nat_twelve k hk h6) c (by simpa using h2)
  simp only [Bool.or_eq_true] at h
  rcases h with (h | h) | h
  · exact absurd h1 (by simp at h; omega)
  · exact absurd (by simpa using h) hg
  · simpa [twelve] using h
set_option maxRecDepth 100000 in
set_option maxHeartbeats 8000000 in
theorem walk (x : Int) (w : World) (ht : Faces w) :
    Calls Tryd.prog 6 #[.int .i64 x] w fun e w' => e = .returned (.bool true) ∧ Below w.heap.size w w' := by
  have HAw := Lib.hid (fun W t => awake_any W t)
  have HN := Lib.hid (fun W => national_any x W)
  have HT := Lib.hid ht
  clear ht
  rcases hb : natB x with _ | _
  · rw [hb] at HN
    clear hb
    go_enter Tryd.func6, Tryd.ntmps6
    go_wp2_with fail
    refine (HAw.out _ HT.out).mono ?_
    rintro e w1 ⟨rfl, hb1⟩
    have HB1 := Lib.hid hb1
    clear hb1
    go_wp2_with fail
    refine (HN.out _).mono ?_
    rintro e w2 ⟨rfl, rfl⟩
    go_wp2_with fail
    go_ret
    exact ⟨rfl, HB1.out⟩
  · rw [hb] at HN
    have hx : 6 ≤ x ∧ x ≤ 17 := by unfold natB at hb; simpa using hb
    obtain ⟨e, h1, h2⟩ := setN_in x (by omega)
    have h6 : 6 ≤ setN x := by omega
    have HG : Hid (∀ (c : Nat), c < 128 → ∀ W, Faces W → Calls Tryd.prog 13 #[.int .i64 x, .int .u8 c] W fun e w' => e = .returned (.int .i32 (gP (setN x) c)) ∧ Below W.heap.size W w') := Lib.hid (fun c hc W t => by
      have := glyph_any x c (by omega) W t
      rwa [Nat.mod_eq_of_lt hc] at this)
    have HP := Lib.hid (nat_part (setN x) (by omega) h6)
    have HS := Lib.hid (cntN_succ (setN x))
    have hs := cnt_start (setN x) 33 (by omega)
    have hok := cnt_ok (setN x) (by omega) h6
    have HLe := Lib.hid (cnt_le (setN x))
    unfold cntOk at hok
    rw [Bool.and_eq_true] at hok
    have HOk := Lib.hid hok
    clear hok hb hx e h1 h2 h6
    generalize setN x = k at *
    go_enter Tryd.func6, Tryd.ntmps6
    go_wp2_with fail
    refine (HAw.out _ HT.out).mono ?_
    rintro e w1 ⟨rfl, hb1⟩
    have HT1 := Lib.hid (HT.out.next hb1); have HB1 := Lib.hid hb1
    clear hb1
    go_wp2_with fail
    refine (HN.out _).mono ?_
    rintro e w2 ⟨rfl, rfl⟩
    go_wp2_with fail
    go_loopw [3, 4] (fun n i wr => ∃ c : Nat, 33 ≤ c ∧ c ≤ 127 ∧ i = .int .i64 c ∧ n = .int .i64 (cntN k c) ∧ Faces wr ∧ Below w.heap.size w wr) (fun _ i _ => 127 - (intOf i).toNat)
    case atStart => exact ⟨33, by omega, by omega, by first | rfl | (rw [hs]; rfl) | simp [hs], by first | rfl | (rw [hs]; rfl) | simp [hs], HT1.out, HB1.out⟩
    case round =>
      obtain ⟨c, hc1, hc2, rfl, rfl, hf, hb⟩ := hrel
      have HF := Lib.hid hf; have HB := Lib.hid hb
      clear hf hb
      by_cases hlt : c < 127
      · have hg := HG.out c (by omega)
        have HGc := Lib.hid hg
        clear hg
        have hle := HLe.out c
        have hd : decide ((c : Int) < 127) = true := by simp; omega
        by_cases hg : gP k c = c
        · have HC : Hid (cntN k (c + 1) = cntN k c) := Lib.hid (by rw [HS.out, if_neg (fun h => h.2 hg)]; rfl)
          rw [hg] at HGc
          have hwu : IntKind.u8.wrap (c : Int) = c := by simp [IntKind.wrap, IntKind.signed, IntKind.bits]; omega
          have hwi : IntKind.i32.wrap (c : Int) = c := by simp [IntKind.wrap, IntKind.signed, IntKind.bits]; omega
          have hw1 : IntKind.i64.wrap ((c : Int) + 1) = (c : Int) + 1 := IntWalk.i64_in _ (by omega)
          clear hg hle
          generalize cntN k c = m at *
          go_wp2_with fail
          refine (HGc.out _ HF.out).mono ?_
          rintro e w3 ⟨rfl, hb3⟩
          have HF3 := Lib.hid (HF.out.next hb3); have HB3 := Lib.hid (HB.out.trans (hb3.mono HB.out.size))
          clear hb3
          go_wp2_with fail
          go_roundw
          case rel => exact ⟨c + 1, by omega, by omega, by first | rfl | go_num, by rw [HC.out], HF3.out, HB3.out⟩
          case measure => simp [intOf]; omega
        · have HC : Hid (cntN k (c + 1) = cntN k c + 1) := Lib.hid (by rw [HS.out, if_pos ⟨hc1, hg⟩])
          have hcs := HP.out c hc1 hlt hg
          have hgb : (gP k c == (c : Int)) = false := by rw [beq_eq_false_iff_ne]; exact hg
          have hwm : IntKind.i64.wrap ((cntN k c : Int) + 1) = (cntN k c : Int) + 1 := IntWalk.i64_in _ (by omega)
          clear hg hle HLe HS HP HG
          generalize cntN k c = m at *
          generalize gP k c = g at *
          rcases hcs with rfl | rfl | rfl | rfl | rfl | rfl | rfl | rfl | rfl | rfl | rfl | rfl
          · go_wp2_with fail
            refine (HGc.out _ HF.out).mono ?_
            rintro e w3 ⟨rfl, hb3⟩
            have HF3 := Lib.hid (HF.out.next hb3); have HB3 := Lib.hid (HB.out.trans (hb3.mono HB.out.size))
            clear hb3
            go_wp2_with fail
            go_roundw
            case rel => exact ⟨36, by omega, by omega, rfl, (congrArg (fun z : Nat => Value.int .i64 (z : Int)) HC.out).symm, HF3.out, HB3.out⟩
            case measure => simp [intOf]
          · go_wp2_with fail
            refine (HGc.out _ HF.out).mono ?_
            rintro e w3 ⟨rfl, hb3⟩
            have HF3 := Lib.hid (HF.out.next hb3); have HB3 := Lib.hid (HB.out.trans (hb3.mono HB.out.size))
            clear hb3
            go_wp2_with fail
            go_roundw
            case rel => exact ⟨65, by omega, by omega, rfl, (congrArg (fun z : Nat => Value.int .i64 (z : Int)) HC.out).symm, HF3.out, HB3.out⟩
            case measure => simp [intOf]
          · go_wp2_with fail
            refine (HGc.out _ HF.out).mono ?_
            rintro e w3 ⟨rfl, hb3⟩
            have HF3 := Lib.hid (HF.out.next hb3); have HB3 := Lib.hid (HB.out.trans (hb3.mono HB.out.size))
            clear hb3
            go_wp2_with fail
            go_roundw
            case rel => exact ⟨92, by omega, by omega, rfl, (congrArg (fun z : Nat => Value.int .i64 (z : Int)) HC.out).symm, HF3.out, HB3.out⟩
            case measure => simp [intOf]
          · go_wp2_with fail
            refine (HGc.out _ HF.out).mono ?_
            rintro e w3 ⟨rfl, hb3⟩
            have HF3 := Lib.hid (HF.out.next hb3); have HB3 := Lib.hid (HB.out.trans (hb3.mono HB.out.size))
            clear hb3
            go_wp2_with fail
            go_roundw
            case rel => exact ⟨93, by omega, by omega, rfl, (congrArg (fun z : Nat => Value.int .i64 (z : Int)) HC.out).symm, HF3.out, HB3.out⟩
            case measure => simp [intOf]
          · go_wp2_with fail
            refine (HGc.out _ HF.out).mono ?_
            rintro e w3 ⟨rfl, hb3⟩
            have HF3 := Lib.hid (HF.out.next hb3); have HB3 := Lib.hid (HB.out.trans (hb3.mono HB.out.size))
            clear hb3
            go_wp2_with fail
            go_roundw
            case rel => exact ⟨94, by omega, by omega, rfl, (congrArg (fun z : Nat => Value.int .i64 (z : Int)) HC.out).symm, HF3.out, HB3.out⟩
            case measure => simp [intOf]
          · go_wp2_with fail
            refine (HGc.out _ HF.out).mono ?_
            rintro e w3 ⟨rfl, hb3⟩
            have HF3 := Lib.hid (HF.out.next hb3); have HB3 := Lib.hid (HB.out.trans (hb3.mono HB.out.size))
            clear hb3
            go_wp2_with fail
            go_roundw
            case rel => exact ⟨95, by omega, by omega, rfl, (congrArg (fun z : Nat => Value.int .i64 (z : Int)) HC.out).symm, HF3.out, HB3.out⟩
            case measure => simp [intOf]
          · go_wp2_with fail
            refine (HGc.out _ HF.out).mono ?_
            rintro e w3 ⟨rfl, hb3⟩
            have HF3 := Lib.hid (HF.out.next hb3); have HB3 := Lib.hid (HB.out.trans (hb3.mono HB.out.size))
            clear hb3
            go_wp2_with fail
            go_roundw
            case rel => exact ⟨96, by omega, by omega, rfl, (congrArg (fun z : Nat => Value.int .i64 (z : Int)) HC.out).symm, HF3.out, HB3.out⟩
            case measure => simp [intOf]
          · go_wp2_with fail
            refine (HGc.out _ HF.out).mono ?_
            rintro e w3 ⟨rfl, hb3⟩
            have HF3 := Lib.hid (HF.out.next hb3); have HB3 := Lib.hid (HB.out.trans (hb3.mono HB.out.size))
            clear hb3
            go_wp2_with fail
            go_roundw
            case rel => exact ⟨97, by omega, by omega, rfl, (congrArg (fun z : Nat => Value.int .i64 (z : Int)) HC.out).symm, HF3.out, HB3.out⟩
            case measure => simp [intOf]
          · go_wp2_with fail
            refine (HGc.out _ HF.out).mono ?_
            rintro e w3 ⟨rfl, hb3⟩
            have HF3 := Lib.hid (HF.out.next hb3); have HB3 := Lib.hid (HB.out.trans (hb3.mono HB.out.size))
            clear hb3
            go_wp2_with fail
            go_roundw
            case rel => exact ⟨124, by omega, by omega, rfl, (congrArg (fun z : Nat => Value.int .i64 (z : Int)) HC.out).symm, HF3.out, HB3.out⟩
            case measure => simp [intOf]
          · go_wp2_with fail
            refine (HGc.out _ HF.out).mono ?_
            rintro e w3 ⟨rfl, hb3⟩
            have HF3 := Lib.hid (HF.out.next hb3); have HB3 := Lib.hid (HB.out.trans (hb3.mono HB.out.size))
            clear hb3
            go_wp2_with fail
            go_roundw
            case rel => exact ⟨125, by omega, by omega, rfl, (congrArg (fun z : Nat => Value.int .i64 (z : Int)) HC.out).symm, HF3.out, HB3.out⟩
            case measure => simp [intOf]
          · go_wp2_with fail
            refine (HGc.out _ HF.out).mono ?_
            rintro e w3 ⟨rfl, hb3⟩
            have HF3 := Lib.hid (HF.out.next hb3); have HB3 := Lib.hid (HB.out.trans (hb3.mono HB.out.size))
            clear hb3
            go_wp2_with fail
            go_roundw
            case rel => exact ⟨126, by omega, by omega, rfl, (congrArg (fun z : Nat => Value.int .i64 (z : Int)) HC.out).symm, HF3.out, HB3.out⟩
            case measure => simp [intOf]
          · go_wp2_with fail
            refine (HGc.out _ HF.out).mono ?_
            rintro e w3 ⟨rfl, hb3⟩
            have HF3 := Lib.hid (HF.out.next hb3); have HB3 := Lib.hid (HB.out.trans (hb3.mono HB.out.size))
            clear hb3
            go_wp2_with fail
            go_roundw
            case rel => exact ⟨127, by omega, by omega, rfl, (congrArg (fun z : Nat => Value.int .i64 (z : Int)) HC.out).symm, HF3.out, HB3.out⟩
            case measure => simp [intOf]
      · obtain rfl : c = 127 := by omega
        obtain ⟨k0, k1⟩ := HOk.out
        have hd1 : decide (0 < (cntN k 127 : Int)) = true := by simp at k0 ⊢; omega
        have hd2 : decide ((cntN k 127 : Int) ≤ 12) = true := by simp at k1 ⊢; omega
        clear k0 k1 hs
        generalize (cntN k 127 : Int) = m at *
        go_wp2_with fail
        go_ret
        exact ⟨rfl, HB.out⟩

set_option maxRecDepth 100000 in
/-- What the walk gives, for every argument and every world that holds the table. -/
theorem contract (H : Type) (enc : TypeId × Value → H) (W : World) (base : Nat) (args : Array Value) (ds gs : List (DataW H)) (before : List MemPlace)
    (hval : ∀ (j : Nat) t v, Tryd.f6.params[j]? = some t → args[j]? = some v → Value.okWide Tryd.prog W .any base t v)
    (hW : DataW.Whole enc Tryd.prog Tryd.f6.params.toList Rows.charsetNationsSpec.vars false W args.toList ds gs before) (hL : laidMetH Tryd.prog Rows.charsetNationsRow.laid W)
    (hreach : (DataW.weightsEach Tryd.prog (Tryd.f6.params.toList ++ []) (ds ++ gs)).all (· ≤ reachBytes) = true) :
    Calls Tryd.prog 6 args W fun e W' => ∃ v, e = .returned v ∧ Rows.charsetNationsSpec.post enc Tryd.prog Tryd.f6 false true false false W args v W' := by
  have hW' := hW
  have ht := facesA hL
  have hlts : ∀ x ∈ before, x.block < W.heap.size := fun x hx => hW'.lt x hx
  obtain ⟨p, q, hA0, hV, rfl, hfz, hnd⟩ := hW
  have hA : DataW.TrodAll enc Tryd.prog W 0 (fun _ => true) true Tryd.f6.params.toList args.toList ds p := hA0
  rw [Tryd.params6] at hA hval hreach
  obtain ⟨v0, vs0, d0, ds0, pp0, qq0, hargs, rfl, rfl, h0, rr0⟩ := trodAll_cons hA
  obtain ⟨rfl, rfl, rfl⟩ := trodAll_nil rr0
  obtain rfl : args = #[v0] := by cases args; simp_all
  obtain ⟨rfl, rfl⟩ := trodVars_none hV
  obtain ⟨a0, rfl, rfl, rfl, w0⟩ := open_int Tryd.underlying3 (hval 0 3 v0 rfl rfl) h0
  clear hA0
  refine (walk a0 W ht).mono fun e W' ⟨he, hb⟩ => ?_
  subst he
  exact ⟨_, rfl, post_law laidOut (by kernel_rfl) (by kernel_rfl) rfl hW' rfl hb⟩

set_option maxRecDepth 100000 in
theorem laid_met (os : Os) : laidMet Tryd.prog Rows.charsetNationsRow.laid ((laidWorld os).forCall (fun _ _ => 0) ⟨#[], #[Value.int .i64 0], []⟩).memory :=
  laidMet_of_run' 8 (by kernel_rfl) (by kernel_rfl)
set_option maxRecDepth 100000 in
theorem reads (os : Os) {H : Type} (enc : TypeId × Value → H) : ∃ places, DataW.whole enc Tryd.prog ((laidWorld os).forCall (fun _ _ => 0) ⟨#[], #[Value.int .i64 0], []⟩).memory Tryd.f6.params.toList Rows.charsetNationsSpec.vars false (#[Value.int .i64 0] : Array Value).toList 8 = some ([.lit (.int .i64 0)], [], places) :=
  ⟨[], by kernel_rfl⟩

set_option maxRecDepth 100000 in
theorem lifted (os : Os) (started : os.Started) (H : Type) (enc : TypeId × Value → H) (F : Stop.Interp) :
    ReturnsInHanded {} Tryd.checked os 6 .any ((OpenSpec.ofChange Rows.charsetNationsSpec).preRow enc Tryd.prog Tryd.f6 Rows.charsetNationsRow.domain false Rows.charsetNationsRow.laid) (((OpenSpec.ofChange Rows.charsetNationsSpec).at F).post enc Tryd.prog Tryd.f6 false true false false) := by
  obtain ⟨places, hx⟩ := reads os enc
  refine returnsInHanded_of_row (C := Tryd.checked) (s := OpenSpec.ofChange Rows.charsetNationsSpec) own started (by kernel_rfl) Tryd.func6
    (witness_row_at (enc := enc) (C := Tryd.checked) false (laidWorld os) #[Value.int .i64 0] rfl (by kernel_rfl) (by kernel_rfl) (by kernel_rfl)
      (OpenSpec.preRow_of_cond 8 hx (by kernel_rfl) (fun k hk => by cases hk) (by kernel_rfl) (laid_met os))) ?_
  intro W base args ds gs before hval hW _ _ hreach hL _ _
  exact contract H enc W base args ds gs before hval hW hL hreach

theorem said : Rows.CharsetNationsSaid :=
  OpenClaim.holds_of_cond 6 Tryd.f6 rfl rfl rfl rfl rfl rfl rfl ⟨rfl, rfl, rfl, rfl, rfl⟩ rfl rfl rfl rfl rfl (by kernel_rfl) Tryd.func6 (by kernel_rfl)
    (of_decide_eq_true (by kernel_rfl)) (by unfold Func.isWrapper; first | (rw [if_pos (by decide +kernel)]; kernel_rfl) | (rw [if_neg (by decide +kernel)]; exact ⟨rfl, rfl⟩))
    (fun os started H enc _ F => by rw [OpenClaim.pre_eq_preRow]; exact lifted os started H enc F)

theorem plain (f : FuncId) (fn : Func) (hf : Tryd.pinned.checked.prog.funcNamed "phosphor/phosphorlaw09.CharsetNations" = some f) (hfn : Tryd.pinned.checked.prog.funcs[f]? = some fn) :
    false = Tryd.pinned.checked.prog.looks [] ∧ ∀ (j : Nat) t, fn.params[j]? = some t → Tryd.pinned.checked.prog.wantsStandIn t = false := by
  obtain rfl : f = 6 := Option.some.inj ((show Tryd.prog.funcNamed "phosphor/phosphorlaw09.CharsetNations" = some 6 by kernel_rfl).symm.trans hf) |>.symm
  obtain rfl : fn = Tryd.f6 := (Option.some.inj (Tryd.func6.symm.trans hfn)).symm
  refine ⟨by kernel_rfl, fun j t ht => ?_⟩
  rw [Tryd.params6] at ht
  have hm : t ∈ [3] := by simpa using Array.mem_of_getElem? ht
  have hall : ([3].all fun u => !Tryd.prog.wantsStandIn u) = true := by kernel_rfl
  exact (show Tryd.prog.wantsStandIn t = false by simpa using List.all_eq_true.1 hall t hm)

/-- The card. -/
theorem card : Rows.CharsetNationsCardSaid :=
  Claim7.holds_tied_plain_at .later [] _ _ _ _ said (fun _ h => by cases h) (by kernel_rfl) (fun _ h => by cases h) charsetNations_row_tie rfl ⟨rfl, rfl⟩ (by kernel_rfl) rfl plain (by kernel_rfl)
#print axioms card
end Go.Proofs.YtmpbalocohoihaaDoor.charsetNations

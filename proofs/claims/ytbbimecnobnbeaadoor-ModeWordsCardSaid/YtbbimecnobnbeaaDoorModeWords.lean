/-
  ModeWords holds, whatever the input: the card of the statement, with the table of the modes tied to the program's text.
-/
import Derived.Test.YtbbimecnobnbeaaDoorCards
import Derived.Test.YtbbimecnobnbeaaDoorTie
import Derived.Test.YtbbimecnobnbeaaDoorFrameN
import Derived.Test.YtbbimecnobnbeaaDoorModD
import Derived.Test.YtbbimecnobnbeaaDoorMixE
namespace Go.Proofs.YtbbimecnobnbeaaDoor.modeWords
open Go.ChangeShapes Go.WideShapes Go.ChangeAt Go.RowKit
open Go.ChangeMaps (open_string)

set_option maxRecDepth 100000 in
set_option maxHeartbeats 4000000 in
theorem walk (m : Nat) (hm : m < 2 ^ 32) (n : Nat) (hn : n < 2 ^ 32) (w : World) (ht : Mods w) :
    Calls Tryd.prog 6 #[.int .u32 m, .int .u32 n] w fun e w' => e = .returned (.bool true) ∧ Below w.heap.size w w' := by
  have HAw := Lib.hid (fun W h => awakeM_any W h)
  have HC : Hid (∀ x : Nat, x < 2 ^ 32 → ∀ W, Calls Tryd.prog 16 #[.int .u32 x] W fun e w' => e = .returned (.int .u32 ((x % 131072 : Nat) : Int)) ∧ W = w') := Lib.hid clear_any
  have HH : Hid (∀ x : Nat, x < 2 ^ 32 → ∀ (z : Int) W, Calls Tryd.prog 14 #[.int .u32 x, .int .i64 z] W fun e w' => e = .returned (.bool (hasN x z)) ∧ W = w') := Lib.hid has_any
  have HW : Hid (∀ (x : Nat) (z : Int) (on : Bool) W, Calls Tryd.prog 12 #[.int .u32 x, .int .i64 z, .bool on] W fun e w' => e = .returned (.int .u32 (withN x z on : Nat)) ∧ W = w') := Lib.hid with_any
  have HT := Lib.hid ht
  have HCm := Lib.hid (HC.out m hm); have HCn := Lib.hid (HC.out n hn)
  have HCc := Lib.hid (HC.out (m % 131072) (by omega))
  rw [Nat.mod_mod] at HCc
  have HHm := Lib.hid (HH.out m hm)
  have HS := Lib.hid (clear_iff m n)
  have HM : Hid (m < 2 ^ 32) := Lib.hid hm
  have hcm : Hid (∀ k : Nat, (∀ j : Nat, j < 17 → hasN k j = hasN m j) → k % 131072 = m % 131072) := Lib.hid (fun k h => (clear_iff k m).2 h)
  clear ht hm
  generalize m % 131072 = cm at *
  generalize n % 131072 = cn at *
  go_enter Tryd.func6, Tryd.ntmps6
  go_wp2_with fail
  refine (HAw.out _ HT.out).mono ?_
  rintro e w1 ⟨rfl, hb1⟩
  have HB1 := Lib.hid hb1
  clear hb1
  go_wp2_with fail
  refine (HCm.out _).mono ?_
  rintro e w2 ⟨rfl, rfl⟩
  go_wp2_with fail
  refine (HCn.out _).mono ?_
  rintro e w2 ⟨rfl, rfl⟩
  go_wp2_with fail
  rename World => w2
  have HSm : Hid (((cm : Int) == (cn : Int)) = true ↔ ∀ j : Nat, j < 17 → hasN m j = hasN n j) := Lib.hid (by
    rw [← HS.out, beq_iff_eq]
    omega)
  generalize ((cm : Int) == (cn : Int)) = sm at *
  go_loopw [1, 6, 7] (fun nn al i wr => ∃ (k x : Nat) (a : Bool), k ≤ 17 ∧ x < 2 ^ 32 ∧ nn = .int .u32 x ∧ al = .bool a ∧ i = .int .i64 k ∧ wr = w2 ∧ (∀ j : Nat, j < 17 → hasN x j = if j < k then hasN m j else hasN n j) ∧ (a = true ↔ ∀ j : Nat, j < k → hasN m j = hasN n j)) (fun _ _ i _ => 17 - (intOf i).toNat)
  case atStart => exact ⟨0, n, true, by omega, hn, rfl, rfl, rfl, rfl, fun j _ => rfl, by simp⟩
  case round =>
    obtain ⟨k, x, a, hk, hx, rfl, rfl, rfl, rfl, hbits, hal⟩ := hrel
    have HBi := Lib.hid hbits; have HAl := Lib.hid hal; have HX := Lib.hid hx
    clear hbits hal
    by_cases hlt : k < 17
    · have hw : IntKind.i64.wrap ((k : Int) + 1) = (k : Int) + 1 := IntWalk.i64_in _ (by omega)
      have hd : decide ((k : Int) < 17) = true := by simp; omega
      have HHx := Lib.hid (HH.out x hx k)
      have HHk := Lib.hid (HHm.out k)
      have hxn : hasN x k = hasN n k := by rw [HBi.out k hlt, if_neg (by omega)]
      rw [hxn] at HHx
      have HWk := Lib.hid (HW.out x k (hasN m k))
      have HBi2 : Hid (∀ j : Nat, j < 17 → hasN (withN x k (hasN m k)) j = if j < k + 1 then hasN m j else hasN n j) := Lib.hid (fun j hj => by
        rw [hasN_with]
        by_cases e : j = k
        · subst e
          rw [if_pos ⟨rfl, (isM_iff _).2 ⟨by omega, by omega⟩⟩, if_pos (by omega)]
        · rw [if_neg (by rintro ⟨e', _⟩; omega), HBi.out j hj]
          by_cases e2 : j < k
          · rw [if_pos e2, if_pos (by omega)]
          · rw [if_neg e2, if_neg (by omega)])
      have HX2 := Lib.hid (withN_lt x k (hasN m k))
      have HAl2 : Hid (((a && (hasN m k == hasN n k)) = true) ↔ ∀ j : Nat, j < k + 1 → hasN m j = hasN n j) := Lib.hid (by
        rw [Bool.and_eq_true, HAl.out, beq_iff_eq]
        constructor
        · rintro ⟨h1, h2⟩ j hj
          by_cases e : j = k
          · subst e; exact h2
          · exact h1 j (by omega)
        · intro h
          exact ⟨fun j hj => h j (by omega), h k (by omega)⟩)
      generalize withN x k (hasN m k) = x2 at *
      generalize hasN m k = hmk at *
      generalize hasN n k = hnk at *
      clear hx hxn
      rcases a with _ | _
      · simp only [Bool.false_and] at HAl2
        go_wp2_with fail
        refine (HHk.out _).mono ?_
        rintro e w3 ⟨rfl, rfl⟩
        go_wp2_with fail
        refine (HWk.out _).mono ?_
        rintro e w3 ⟨rfl, rfl⟩
        go_wp2_with fail
        go_roundw
        case rel => exact ⟨k + 1, x2, false, by omega, HX2.out, by first | rfl | trivial, by first | rfl | trivial, by first | rfl | go_num, by first | rfl | trivial, HBi2.out, HAl2.out⟩
        case measure => simp [intOf]; omega
      · simp only [Bool.true_and] at HAl2
        go_wp2_with fail
        refine (HHk.out _).mono ?_
        rintro e w3 ⟨rfl, rfl⟩
        go_wp2_with fail
        refine (HHx.out _).mono ?_
        rintro e w3 ⟨rfl, rfl⟩
        go_wp2_with fail
        refine (HHk.out _).mono ?_
        rintro e w3 ⟨rfl, rfl⟩
        go_wp2_with fail
        refine (HWk.out _).mono ?_
        rintro e w3 ⟨rfl, rfl⟩
        go_wp2_with fail
        go_roundw
        case rel => exact ⟨k + 1, x2, hmk == hnk, by omega, HX2.out, by first | rfl | trivial, by first | rfl | trivial, by first | rfl | go_num, by first | rfl | trivial, HBi2.out, HAl2.out⟩
        case measure => simp [intOf]; omega
    · obtain rfl : k = 17 := by omega
      have hcx := hcm.out x (fun j hj => by rw [HBi.out j hj, if_pos hj])
      have HCx := Lib.hid (HC.out x hx)
      rw [hcx] at HCx
      have has : a = sm := by
        rw [Bool.eq_iff_iff, HAl.out, HSm.out]
      subst has
      clear hcx hx
      go_wp2_with fail
      refine (HCx.out _).mono ?_
      rintro e w3 ⟨rfl, rfl⟩
      go_wp2_with fail
      refine (HCm.out _).mono ?_
      rintro e w3 ⟨rfl, rfl⟩
      go_wp2_with fail
      refine (HCm.out _).mono ?_
      rintro e w3 ⟨rfl, rfl⟩
      go_wp2_with fail
      refine (HCc.out _).mono ?_
      rintro e w3 ⟨rfl, rfl⟩
      go_wp2_with fail
      refine (HCm.out _).mono ?_
      rintro e w3 ⟨rfl, rfl⟩
      go_wp2_with fail
      go_ret
      exact ⟨rfl, HB1.out⟩

set_option maxRecDepth 100000 in
/-- What the walk gives, for every argument and every world that holds the table. -/
theorem contract (H : Type) (enc : TypeId × Value → H) (W : World) (base : Nat) (args : Array Value) (ds gs : List (DataW H)) (before : List MemPlace)
    (hval : ∀ (j : Nat) t v, Tryd.f6.params[j]? = some t → args[j]? = some v → Value.okWide Tryd.prog W .any base t v)
    (hW : DataW.Whole enc Tryd.prog Tryd.f6.params.toList Rows.modeWordsSpec.vars false W args.toList ds gs before) (hL : laidMetH Tryd.prog Rows.modeWordsRow.laid W)
    (hreach : (DataW.weightsEach Tryd.prog (Tryd.f6.params.toList ++ []) (ds ++ gs)).all (· ≤ reachBytes) = true) :
    Calls Tryd.prog 6 args W fun e W' => ∃ v, e = .returned v ∧ Rows.modeWordsSpec.post enc Tryd.prog Tryd.f6 false true false false W args v W' := by
  have hW' := hW
  have ht := modsA hL
  have hlts : ∀ x ∈ before, x.block < W.heap.size := fun x hx => hW'.lt x hx
  obtain ⟨p, q, hA0, hV, rfl, hfz, hnd⟩ := hW
  have hA : DataW.TrodAll enc Tryd.prog W 0 (fun _ => true) true Tryd.f6.params.toList args.toList ds p := hA0
  rw [Tryd.params6] at hA hval hreach
  obtain ⟨v0, vs0, d0, ds0, pp0, qq0, hargs, rfl, rfl, h0, rr0⟩ := trodAll_cons hA
  obtain ⟨v1, vs1, d1, ds1, pp1, qq1, rfl, rfl, rfl, h1, rr1⟩ := trodAll_cons rr0
  obtain ⟨rfl, rfl, rfl⟩ := trodAll_nil rr1
  obtain rfl : args = #[v0, v1] := by cases args; simp_all
  obtain ⟨rfl, rfl⟩ := trodVars_none hV
  obtain ⟨z0, rfl, rfl, rfl, w0⟩ := open_int Tryd.underlying33 (hval 0 33 v0 rfl rfl) h0
  obtain ⟨lo0, hi0⟩ := bounds_u32 w0
  obtain ⟨a0, rfl⟩ : ∃ a : Nat, z0 = (a : Int) := ⟨z0.toNat, by omega⟩
  obtain ⟨z1, rfl, rfl, rfl, w1⟩ := open_int Tryd.underlying33 (hval 1 33 v1 rfl rfl) h1
  obtain ⟨lo1, hi1⟩ := bounds_u32 w1
  obtain ⟨a1, rfl⟩ : ∃ a : Nat, z1 = (a : Int) := ⟨z1.toNat, by omega⟩
  clear hA0
  refine (walk a0 (by omega) a1 (by omega) W ht).mono fun e W' ⟨he, hb⟩ => ?_
  subst he
  exact ⟨_, rfl, post_law laidOut (by kernel_rfl) (by kernel_rfl) rfl hW' rfl hb⟩

set_option maxRecDepth 100000 in
theorem laid_met (os : Os) : laidMet Tryd.prog Rows.modeWordsRow.laid ((laidWorld os).forCall (fun _ _ => 0) ⟨#[], #[Value.int .u32 0, Value.int .u32 0], []⟩).memory :=
  laidMet_of_run' 8 (by kernel_rfl) (by kernel_rfl)
set_option maxRecDepth 100000 in
theorem reads (os : Os) {H : Type} (enc : TypeId × Value → H) : ∃ places, DataW.whole enc Tryd.prog ((laidWorld os).forCall (fun _ _ => 0) ⟨#[], #[Value.int .u32 0, Value.int .u32 0], []⟩).memory Tryd.f6.params.toList Rows.modeWordsSpec.vars false (#[Value.int .u32 0, Value.int .u32 0] : Array Value).toList 8 = some ([.lit (.int .u32 0), .lit (.int .u32 0)], [], places) :=
  ⟨[], by kernel_rfl⟩

set_option maxRecDepth 100000 in
theorem lifted (os : Os) (started : os.Started) (H : Type) (enc : TypeId × Value → H) (F : Stop.Interp) :
    ReturnsInHanded {} Tryd.checked os 6 .any ((OpenSpec.ofChange Rows.modeWordsSpec).preRow enc Tryd.prog Tryd.f6 Rows.modeWordsRow.domain false Rows.modeWordsRow.laid) (((OpenSpec.ofChange Rows.modeWordsSpec).at F).post enc Tryd.prog Tryd.f6 false true false false) := by
  obtain ⟨places, hx⟩ := reads os enc
  refine returnsInHanded_of_row (C := Tryd.checked) (s := OpenSpec.ofChange Rows.modeWordsSpec) own started (by kernel_rfl) Tryd.func6
    (witness_row_at (enc := enc) (C := Tryd.checked) false (laidWorld os) #[Value.int .u32 0, Value.int .u32 0] rfl (by kernel_rfl) (by kernel_rfl) (by kernel_rfl)
      (OpenSpec.preRow_of_cond 8 hx (by kernel_rfl) (fun k hk => by cases hk) (by kernel_rfl) (laid_met os))) ?_
  intro W base args ds gs before hval hW _ _ hreach hL _ _
  exact contract H enc W base args ds gs before hval hW hL hreach

theorem said : Rows.ModeWordsSaid :=
  OpenClaim.holds_of_cond 6 Tryd.f6 rfl rfl rfl rfl rfl rfl rfl ⟨rfl, rfl, rfl, rfl, rfl⟩ rfl rfl rfl rfl rfl (by kernel_rfl) Tryd.func6 (by kernel_rfl)
    (of_decide_eq_true (by kernel_rfl)) (by unfold Func.isWrapper; first | (rw [if_pos (by decide +kernel)]; kernel_rfl) | (rw [if_neg (by decide +kernel)]; exact ⟨rfl, rfl⟩))
    (fun os started H enc _ F => by rw [OpenClaim.pre_eq_preRow]; exact lifted os started H enc F)

theorem plain (f : FuncId) (fn : Func) (hf : Tryd.pinned.checked.prog.funcNamed "phosphor/phosphorlaw17.ModeWords" = some f) (hfn : Tryd.pinned.checked.prog.funcs[f]? = some fn) :
    false = Tryd.pinned.checked.prog.looks [] ∧ ∀ (j : Nat) t, fn.params[j]? = some t → Tryd.pinned.checked.prog.wantsStandIn t = false := by
  obtain rfl : f = 6 := Option.some.inj ((show Tryd.prog.funcNamed "phosphor/phosphorlaw17.ModeWords" = some 6 by kernel_rfl).symm.trans hf) |>.symm
  obtain rfl : fn = Tryd.f6 := (Option.some.inj (Tryd.func6.symm.trans hfn)).symm
  refine ⟨by kernel_rfl, fun j t ht => ?_⟩
  rw [Tryd.params6] at ht
  have hm : t ∈ [33, 33] := by simpa using Array.mem_of_getElem? ht
  have hall : ([33, 33].all fun u => !Tryd.prog.wantsStandIn u) = true := by kernel_rfl
  exact (show Tryd.prog.wantsStandIn t = false by simpa using List.all_eq_true.1 hall t hm)

/-- The card. -/
theorem card : Rows.ModeWordsCardSaid :=
  Claim7.holds_tied_plain_at .later [] _ _ _ _ said (fun _ h => by cases h) (by kernel_rfl) (fun _ h => by cases h) modeWords_row_tie rfl ⟨rfl, rfl⟩ (by kernel_rfl) rfl plain (by kernel_rfl)
#print axioms card
end Go.Proofs.YtbbimecnobnbeaaDoor.modeWords

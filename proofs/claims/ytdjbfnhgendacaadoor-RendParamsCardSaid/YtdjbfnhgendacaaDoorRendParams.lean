/-
  RendParams holds, whatever the input: the card of the statement, with the table of parts tied to the program's text.
-/
import Derived.Test.YtdjbfnhgendacaaDoorCards
import Derived.Test.YtdjbfnhgendacaaDoorTie
import Derived.Test.YtdjbfnhgendacaaDoorFrameB
import Derived.Test.YtdjbfnhgendacaaDoorAwake
import Derived.Test.YtdjbfnhgendacaaDoorRendD
import Derived.Test.YtdjbfnhgendacaaDoorRendI
namespace Go.Proofs.YtdjbfnhgendacaaDoor.rendParams
open Go.ChangeShapes Go.WideShapes Go.ChangeAt Go.RowKit
open Go.ChangeMaps (open_string)

theorem oints_below {w w' : World} {base : Nat} {v : Value} {ns : List Int} (h : OInts w base v ns) (hb : Below w.heap.size w w') : OInts w' base v ns :=
  World.ownsRow.kept (row := none) h ⟨hb.os, hb.tape, hb.output, hb.size, fun k hk _ => hb.block k hk⟩ (by cases v.ownBlock <;> simp)
theorem oints_head {w : World} {base : Nat} {v : Value} {ns : List Int} (h : OInts w base v ns) (hn : 0 < ns.length) : ∃ g c, v = .slice (some ⟨g, 0, none⟩) ns.length c ∧ base ≤ g := by
  rcases h.2 with ⟨_, h0⟩ | ⟨g, cap, _, hv, hb, _⟩
  · omega
  · exact ⟨g, cap, hv, hb⟩
theorem oints_store {w : World} {base g c : Nat} {ns : List Int} (h : OInts w base (.slice (some ⟨g, 0, none⟩) ns.length c) ns) (k : Nat) (n : Int) :
    OInts (w.setCell ⟨g, k, none⟩ (.int .i64 n)) base (.slice (some ⟨g, 0, none⟩) ns.length c) (ns.set k n) := by
  have := (World.ownsRow.stored h k (.int .i64 n)).1
  simpa [OInts, List.map_set] using this
theorem oints_cell {w : World} {base g c : Nat} {ns : List Int} (h : OInts w base (.slice (some ⟨g, 0, none⟩) ns.length c) ns) {k : Nat} (hk : k < ns.length) :
    w.cell? ⟨g, k, none⟩ = some (.int .i64 ns[k]) ∧ w.frozen? ⟨g, k, none⟩ = false := by
  refine ⟨?_, World.ownsRow.frozenAt h k⟩
  rw [World.ownsRow.cellAt h k (by omega)]
  simp [List.getElem?_eq_getElem hk]

set_option maxHeartbeats 1600000 in
theorem walk (a : Int) (a0 : 0 ≤ a) (a1 : a ≤ 255) (f : Int) (f0 : 0 ≤ f) (f1 : f ≤ 255) (w : World) (ht : Tab w) :
    Calls Tryd.prog 5 #[.int .u8 a, .int .u8 f] w fun e w' => e = .returned (.bool true) ∧ Below w.heap.size w w' := by
  have hpl := parK_len a 5
  have hpp : 0 < (parK a 5).length := by rw [par_letN_len]; omega
  have HAp := Lib.hid (apply_par (f := f) a0 a1)
  have HR := Lib.hid (rd_fb a0 a1)
  generalize hL : parK a 5 = L at *
  have HL := Lib.hid hL
  clear hL
  go_enter Tryd.func5, Tryd.ntmps5
  go_wp2_with fail
  refine (awake_any _ ht).mono ?_
  rintro e w1 ⟨rfl, hb⟩
  go_wp2_with fail
  refine (params_any a a0 a1 _ (ht.next hb)).mono ?_
  rw [HL.out]
  rintro e w2 ⟨v, rfl, hown, hb'⟩
  have hbase : w.heap.size ≤ w1.heap.size := hb.size
  replace hb := hb.trans (hb'.mono hb.size); clear hb'
  obtain ⟨g, c, rfl, hg⟩ := oints_head hown hpp
  go_wp2_with fail
  refine (refParams_any a a0 a1 _).mono ?_
  rw [HL.out]
  rintro e w3 ⟨v, rfl, hown2, hb'⟩
  replace hb := hb.trans (hb'.mono hb.size)
  replace hown := oints_below hown hb'
  clear hb'
  obtain ⟨A2, c2, rfl⟩ := hown2.form
  go_wp2_with fail
  refine (sameInts_any _ A2 c c2 L L (by unfold maxLen; omega) (by unfold maxLen; omega) _ hown.reads hown2.reads).mono ?_
  rintro e w4 ⟨rfl, hb'⟩
  replace hb := hb.trans (hb'.mono hb.size)
  replace hown := oints_below hown hb'
  clear hown2 hb'
  rw [beq_self_eq_true]
  go_wp2_with fail
  refine (apply_any f f0 f1 _ c L (by unfold maxLen; omega) _ (ht.next hb) hown.reads).mono ?_
  rintro e w5 ⟨rfl, hb'⟩
  replace hb := hb.trans (hb'.mono hb.size)
  replace hown := oints_below hown hb'
  clear hb'
  rw [HAp.out]
  go_wp2_with fail
  refine (of_any a a0 a1 _).mono ?_
  rintro e w6 ⟨rfl, hb'⟩
  replace hb := hb.trans (hb'.mono hb.size)
  replace hown := oints_below hown hb'
  clear hb'
  go_wp2_with fail
  refine (rend_any _ _ _ _ _ _).mono ?_
  rintro e w7 ⟨rfl, hb'⟩
  replace hb := hb.trans (hb'.mono hb.size)
  replace hown := oints_below hown hb'
  clear hb'
  rw [HR.out]
  have HOwn := Lib.hid hown
  clear hown
  go_wp2_with fail
  go_loopw [27] (fun i wr => ∃ (k : Nat) (l : List Int), k ≤ L.length ∧ i = .int .i64 k ∧ l.length = L.length ∧ OInts wr w1.heap.size (.slice (some ⟨g, 0, none⟩) l.length c) l ∧ Below w.heap.size w wr) (fun i _ => L.length - (intOf i).toNat)
  case atStart => exact ⟨0, L, by omega, rfl, rfl, HOwn.out, hb⟩
  case round =>
    obtain ⟨k, l, hk, rfl, hl, hown, hb2⟩ := hrel
    have Hl := Lib.hid hl
    clear hl hb
    by_cases hlt : k < L.length
    · obtain ⟨hc, hf⟩ := oints_cell hown (k := k) (by rw [Hl.out]; exact hlt)
      have HO := Lib.hid hown
      clear hown
      generalize l[k]'(by rw [Hl.out]; exact hlt) = q at *
      go_wp2
      go_roundw
      case rel => exact ⟨k + 1, l.set k 99, by omega, by go_num, by simp [Hl.out], by simpa using oints_store HO.out k 99, hb2.setCell (by show w.heap.size ≤ g; omega) _⟩
      case measure => simp [intOf]; omega
    · obtain rfl : k = L.length := by omega
      clear hown
      go_wp2_with fail
      refine (params_any a a0 a1 _ (ht.next hb2)).mono ?_
      rw [HL.out]
      rintro e w8 ⟨v, rfl, hown, hb'⟩
      replace hb2 := hb2.trans (hb'.mono hb2.size); clear hb'
      obtain ⟨A3, c3, rfl⟩ := hown.form
      go_wp2_with fail
      refine (refParams_any a a0 a1 _).mono ?_
      rw [HL.out]
      rintro e w9 ⟨v, rfl, hown2, hb'⟩
      replace hb2 := hb2.trans (hb'.mono hb2.size)
      replace hown := oints_below hown hb'
      clear hb'
      obtain ⟨A4, c4, rfl⟩ := hown2.form
      go_wp2_with fail
      refine (sameInts_any A3 A4 c3 c4 L L (by unfold maxLen; omega) (by unfold maxLen; omega) _ hown.reads hown2.reads).mono ?_
      rintro e w10 ⟨rfl, hb'⟩
      replace hb2 := hb2.trans (hb'.mono hb2.size); clear hb'
      go_wp2_with fail
      go_ret
      exact ⟨by simp only; rfl, hb2⟩

/-- What the walk gives, for every argument and every world that holds the table. -/
theorem contract (H : Type) (enc : TypeId × Value → H) (W : World) (base : Nat) (args : Array Value) (ds gs : List (DataW H)) (before : List MemPlace)
    (hval : ∀ (j : Nat) t v, Tryd.f5.params[j]? = some t → args[j]? = some v → Value.okWide Tryd.prog W .any base t v)
    (hW : DataW.Whole enc Tryd.prog Tryd.f5.params.toList Rows.rendParamsSpec.vars false W args.toList ds gs before) (hL : laidMetH Tryd.prog Rows.rendParamsRow.laid W)
    (hreach : (DataW.weightsEach Tryd.prog (Tryd.f5.params.toList ++ []) (ds ++ gs)).all (· ≤ reachBytes) = true) :
    Calls Tryd.prog 5 args W fun e W' => ∃ v, e = .returned v ∧ Rows.rendParamsSpec.post enc Tryd.prog Tryd.f5 false true false false W args v W' := by
  have hW' := hW
  have ht := tab_of hL
  have hlts : ∀ x ∈ before, x.block < W.heap.size := fun x hx => hW'.lt x hx
  obtain ⟨p, q, hA0, hV, rfl, hfz, hnd⟩ := hW
  have hA : DataW.TrodAll enc Tryd.prog W 0 (fun _ => true) true Tryd.f5.params.toList args.toList ds p := hA0
  rw [Tryd.params5] at hA hval hreach
  obtain ⟨v0, vs0, d0, ds0, p0, q0, hargs, rfl, rfl, h0, r0⟩ := trodAll_cons hA
  obtain ⟨v1, vs1, d1, ds1, p1, q1, rfl, rfl, rfl, h1, r1⟩ := trodAll_cons r0
  obtain ⟨rfl, rfl, rfl⟩ := trodAll_nil r1
  obtain rfl : args = #[v0, v1] := by cases args; simp_all
  obtain ⟨rfl, rfl⟩ := trodVars_none hV
  obtain ⟨a0, rfl, rfl, rfl, w0⟩ := open_int Tryd.underlying22 (hval 0 22 v0 rfl rfl) h0
  obtain ⟨lo0, hi0⟩ := bounds_u8 w0
  obtain ⟨a1, rfl, rfl, rfl, w1⟩ := open_int Tryd.underlying22 (hval 1 22 v1 rfl rfl) h1
  obtain ⟨lo1, hi1⟩ := bounds_u8 w1
  clear hA0
  refine (walk a0 lo0 hi0 a1 lo1 hi1 W ht).mono fun e W' ⟨he, hb⟩ => ?_
  subst he
  exact ⟨_, rfl, post_law laidOut (by kernel_rfl) (by kernel_rfl) rfl hW' rfl hb⟩

theorem laid_met (os : Os) : laidMet Tryd.prog Rows.rendParamsRow.laid ((laidWorld os).forCall (fun _ _ => 0) ⟨#[], #[Value.int .u8 0, Value.int .u8 0], []⟩).memory :=
  laidMet_of_run' 8 (by kernel_rfl) (by kernel_rfl)
theorem reads (os : Os) {H : Type} (enc : TypeId × Value → H) : ∃ places, DataW.whole enc Tryd.prog ((laidWorld os).forCall (fun _ _ => 0) ⟨#[], #[Value.int .u8 0, Value.int .u8 0], []⟩).memory Tryd.f5.params.toList Rows.rendParamsSpec.vars false (#[Value.int .u8 0, Value.int .u8 0] : Array Value).toList 8 = some ([.lit (.int .u8 0), .lit (.int .u8 0)], [], places) :=
  ⟨[], by kernel_rfl⟩

set_option maxRecDepth 100000 in
theorem lifted (os : Os) (started : os.Started) (H : Type) (enc : TypeId × Value → H) (F : Stop.Interp) :
    ReturnsInHanded {} Tryd.checked os 5 .any ((OpenSpec.ofChange Rows.rendParamsSpec).preRow enc Tryd.prog Tryd.f5 Rows.rendParamsRow.domain false Rows.rendParamsRow.laid) (((OpenSpec.ofChange Rows.rendParamsSpec).at F).post enc Tryd.prog Tryd.f5 false true false false) := by
  obtain ⟨places, hx⟩ := reads os enc
  refine returnsInHanded_of_row (C := Tryd.checked) (s := OpenSpec.ofChange Rows.rendParamsSpec) own started (by kernel_rfl) Tryd.func5
    (witness_row_at (enc := enc) (C := Tryd.checked) false (laidWorld os) #[Value.int .u8 0, Value.int .u8 0] rfl (by kernel_rfl) (by kernel_rfl) (by kernel_rfl)
      (OpenSpec.preRow_of_cond 8 hx (by kernel_rfl) (fun k hk => by cases hk) (by kernel_rfl) (laid_met os))) ?_
  intro W base args ds gs before hval hW _ _ hreach hL _ _
  exact contract H enc W base args ds gs before hval hW hL hreach

theorem said : Rows.RendParamsSaid :=
  OpenClaim.holds_of_cond 5 Tryd.f5 rfl rfl rfl rfl rfl rfl rfl ⟨rfl, rfl, rfl, rfl, rfl⟩ rfl rfl rfl rfl rfl (by kernel_rfl) Tryd.func5 (by kernel_rfl)
    (of_decide_eq_true (by kernel_rfl)) (by unfold Func.isWrapper; first | (rw [if_pos (by decide +kernel)]; kernel_rfl) | (rw [if_neg (by decide +kernel)]; exact ⟨rfl, rfl⟩))
    (fun os started H enc _ F => by rw [OpenClaim.pre_eq_preRow]; exact lifted os started H enc F)

theorem plain (f : FuncId) (fn : Func) (hf : Tryd.pinned.checked.prog.funcNamed "phosphor/phosphorlaw01.RendParams" = some f) (hfn : Tryd.pinned.checked.prog.funcs[f]? = some fn) :
    false = Tryd.pinned.checked.prog.looks [] ∧ ∀ (j : Nat) t, fn.params[j]? = some t → Tryd.pinned.checked.prog.wantsStandIn t = false := by
  obtain rfl : f = 5 := Option.some.inj ((show Tryd.prog.funcNamed "phosphor/phosphorlaw01.RendParams" = some 5 by kernel_rfl).symm.trans hf) |>.symm
  obtain rfl : fn = Tryd.f5 := (Option.some.inj (Tryd.func5.symm.trans hfn)).symm
  refine ⟨by kernel_rfl, fun j t ht => ?_⟩
  rw [Tryd.params5] at ht
  have hm : t ∈ [22, 22] := by simpa using Array.mem_of_getElem? ht
  have hall : ([22, 22].all fun u => !Tryd.prog.wantsStandIn u) = true := by kernel_rfl
  exact (show Tryd.prog.wantsStandIn t = false by simpa using List.all_eq_true.1 hall t hm)

/-- The card. -/
theorem card : Rows.RendParamsCardSaid :=
  Claim7.holds_tied_plain_at .later [] _ _ _ _ said (fun _ h => by cases h) (by kernel_rfl) (fun _ h => by cases h) rendParams_row_tie rfl ⟨rfl, rfl⟩ (by kernel_rfl) rfl plain (by kernel_rfl)
#print axioms card
end Go.Proofs.YtdjbfnhgendacaaDoor.rendParams

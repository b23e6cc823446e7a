/-
  MacroStores holds, whatever the input: the card of the statement, with the library's three tables and its two errors tied to the program's text.
-/
import Derived.Test.YtnbbepkkedhhgaaGreatDoorCards
import Derived.Test.YtnbbepkkedhhgaaGreatDoorTie
import Derived.Test.YtnbbepkkedhhgaaGreatDoorFrameH
import Derived.Test.YtnbbepkkedhhgaaGreatDoorStoR
import Derived.Test.YtnbbepkkedhhgaaGreatDoorFrameAm
namespace Go.Proofs.YtnbbepkkedhhgaaGreatDoor.macroStores
open Go.ChangeShapes Go.WideShapes Go.ChangeAt Go.RowKit
open Go.ChangeMaps (open_string)

set_option maxRecDepth 100000 in
set_option maxHeartbeats 16000000 in
theorem walk (B0 : Option Addr) (cap0 : Nat) (acts : List Am) (_hm : acts.length ≤ maxLen) (hok : ∀ a ∈ acts, a.ok) (id : Int) (hid : -9223372036854775808 ≤ id ∧ id ≤ 9223372036854775807) (w : World) (_ht : Ten w) (he : ErrS w) (hri : RAm w B0 acts) :
    Calls Tryz.prog 3 #[.slice B0 acts.length cap0, .int .i64 id] w fun e w' => e = .returned (.bool true) ∧ Below w.heap.size w w' := by
  have HAw := Lib.hid (macAwake_any w he)
  have HE := Lib.hid he
  have HR := Lib.hid hri
  clear he hri
  go_enter Tryz.func3, Tryz.ntmps3
  go_wp2_with fail
  refine HAw.out.mono ?_
  rintro e w1 ⟨rfl, hb⟩
  have HB1 := Lib.hid hb
  clear hb HAw
  --#1
  go_wp2_with fail
  have HS0 : StoB (w1.alloc (.cells #[.map none] 26)) w1.heap.size none 0 (.map []) := ⟨Blk.new _ _ _, .inl ⟨rfl, rfl⟩⟩
  obtain ⟨S, hS⟩ : ∃ S, w1.heap.size = S := ⟨_, rfl⟩
  have HB2 := Lib.hid (show Below w.heap.size w (w1.alloc (.cells #[.map none] 26)) from HB1.out.alloc HB1.out.size _)
  have hSB : w.heap.size ≤ S := by rw [← hS]; exact HB1.out.size
  rw [hS] at HS0 ⊢
  have HS := Lib.hid HS0
  clear HS0 HB1
  generalize w1.alloc (.cells #[.map none] 26) = w2 at *
  clear hS w1
  --#2
  go_loopw [6, 7] (fun xw i wr => ∃ (k : Nat) (m : Option Nat) (L : List Mc) (A : Option Addr) (c : Nat), i = .int .i64 k ∧ .slice A L.length c = xw ∧ k ≤ acts.length ∧ k ≤ 20 ∧ OkL L ∧ L.length ≤ k ∧ StoB wr S m k (dOf L) ∧ FarMap w.heap.size m ∧ RMc wr A L ∧ ApS S m A L ∧ Below w.heap.size w wr) (fun _ i _ => 20 - (intOf i).toNat)
  case atStart => exact ⟨0, none, [], none, 0, rfl, rfl, Nat.zero_le _, by omega, okL_nil, by simp, HS.out, (fun b e => by cases e), ⟨rfl, fun hn => absurd hn (by simp)⟩, (fun hn => absurd hn (by simp)), HB2.out⟩
  case round =>
    obtain ⟨k, m, L, A, c, rfl, rfl, hk, hk20, hokl, hlen, hsto, hfar, hrm, hap, hbw⟩ := hrel
    have HST := Lib.hid hsto
    have HFM := Lib.hid hfar
    have HOK := Lib.hid hokl
    have HRM := Lib.hid hrm
    have HAP := Lib.hid hap
    have HBW := Lib.hid hbw
    clear hsto hfar hokl hrm hap hbw HS HB2
    by_cases hkn : k < acts.length
    · have c1 : (k : Int) < (acts.length : Int) := by omega
      by_cases hk2 : k < 20
      · have c2 : (k : Int) < 20 := by omega
        go_wp2_with fail
        refine (cloneM_any S m k (dOf L) wr HST.out).mono ?_
        rintro e w3 ⟨⟨B, mw, rfl, hsB, hB, hp⟩, hb⟩
        have hno : ∀ q ∈ ownB S m, q < wr.heap.size := own_lt HST.out
        have hBn : B ∉ ownB S m := fun h => by have := hno _ h; omega
        have hmn : ∀ q, mw = some q → q ∉ ownB S m := fun q e h => by
          have := hno _ h
          rcases hp with h1 | ⟨q2, h1, h2⟩
          · rw [h1] at e; cases e
          · rw [h1] at e; injection e with e; omega
        have HB3 := Lib.hid (HBW.out.trans (hb.mono HBW.out.size))
        have HS3 := Lib.hid (HST.out.next hb)
        have HC3 := Lib.hid hsB
        have HR3 := Lib.hid (HRM.out.next hb)
        have hrA := (HR.out.next HB3.out)
        obtain ⟨ad, rfl, _⟩ := hrA.2 (by omega)
        obtain ⟨s0, s1, s2, s3⟩ := hrA.four hkn
        have hoka := hok acts[k] (List.getElem_mem hkn)
        generalize acts[k] = a at *
        obtain ⟨ai, ac, ah, ad2⟩ := a
        simp only at s0 s1 s2 s3
        have HD := Lib.hid (doM_any S m k L A c ⟨ai, ac, ah, ad2⟩ hoka (by omega) w3 HS3.out HOK.out (by omega) HR3.out HAP.out (HE.out.next HB3.out))
        simp only at HD
        clear hsB hb hp hB hno HST HBW HRM hrA hoka
        go_wp2_with fail
        refine HD.out.mono ?_
        intro e w4 hd4
        obtain ⟨L2, B2, c2, m2, rfl, hrB, hok2, hlen2, hs4, hsn, ho4, hap2⟩ := hd4
        have HS4 := Lib.hid hs4
        have HR4 := Lib.hid hrB
        have HC4 := Lib.hid (HC3.out.only ho4 hBn hmn)
        have HO4 := Lib.hid (HR3.out.only ho4 HAP.out)
        have HB4 := Lib.hid (HB3.out.trans (ho4.below HB3.out.size (own_far hSB HFM.out)))
        have HF4 := Lib.hid (HFM.out.same hsn HB3.out.size)
        have HK2 := Lib.hid hok2
        have HAP2 := Lib.hid hap2
        have hl2 : L2.length ≤ k + 1 := by omega
        clear hrB hok2 hs4 hsn ho4 hap2 HD s0 s1 s2 s3 HS3 HC3 HR3 HB3 HFM HAP hBn hmn
        go_wp2_with fail
        refine (isM_any S m2 (k + 1) L2 B2 c2 w4 HS4.out HK2.out (by omega) HR4.out).mono ?_
        rintro e w5 ⟨rfl, hb5⟩
        have HS5 := Lib.hid (HS4.out.next hb5)
        have HR5 := Lib.hid (HR4.out.next hb5)
        have HC5 := Lib.hid (HC4.out.next hb5)
        have HO5 := Lib.hid (HO4.out.next hb5)
        have HB5 := Lib.hid (HB4.out.trans (hb5.mono HB4.out.size))
        clear hb5 HS4 HR4 HC4 HO4 HB4
        go_wp2_with fail
        refine (isM_any B mw k L A c w5 HC5.out HOK.out (by omega) HO5.out).mono ?_
        rintro e w6 ⟨rfl, hb6⟩
        have HS6 := Lib.hid (HS5.out.next hb6)
        have HR6 := Lib.hid (HR5.out.next hb6)
        have HC6 := Lib.hid (HC5.out.next hb6)
        have HO6 := Lib.hid (HO5.out.next hb6)
        have HB6 := Lib.hid (HB5.out.trans (hb6.mono HB5.out.size))
        clear hb6 HS5 HR5 HC5 HO5 HB5
        go_wp2_with fail
        refine (sameM_any S B m2 mw (k + 1) k (dOf L2) (dOf L) w6 HS6.out HC6.out).mono ?_
        rintro e w7 ⟨⟨v, rfl, hv⟩, hb7⟩
        have hvd : v = decide (L2 = L) := by
          by_cases h : L2 = L
          · rw [decide_eq_true h]; exact hv.2 (by rw [h])
          · rw [decide_eq_false h]
            cases hvv : v
            · rfl
            · exact absurd (dOf_inj (hv.1 hvv)) h
        have HS7 := Lib.hid (HS6.out.next hb7)
        have HR7 := Lib.hid (HR6.out.next hb7)
        have HO7 := Lib.hid (HO6.out.next hb7)
        have HB7 := Lib.hid (HB6.out.trans (hb7.mono HB6.out.size))
        subst hvd
        clear hb7 HS6 HR6 HC6 HO6 HB6 hv
        go_wp2_with fail
        refine (refSameM_any B2 c2 L2 A c L (by omega) (by omega) w7 HR7.out HO7.out).mono ?_
        rintro e w8 ⟨rfl, hb8⟩
        have HS8 := Lib.hid (HS7.out.next hb8)
        have HR8 := Lib.hid (HR7.out.next hb8)
        have HB8 := Lib.hid (HB7.out.trans (hb8.mono HB7.out.size))
        generalize decide (L2 = L) = q at *
        have hqq : (q != q) = false := by cases q <;> rfl
        have hwk : IntKind.i64.wrap ((k : Int) + 1) = (k : Int) + 1 := IntWalk.i64_in _ (by omega)
        clear hb8 HS7 HR7 HO7 HB7
        go_wp2_with fail
        go_roundw
        case rel => exact ⟨k + 1, m2, L2, B2, c2, by first | rfl | go_num, rfl, by omega, by omega, HK2.out, by omega, HS8.out, HF4.out, HR8.out, HAP2.out, HB8.out⟩
        case measure => simp [intOf]; omega
      · have c2 : ¬ (k : Int) < 20 := by omega
        have HG := Lib.hid (getM_any S m k (dOf L) id hid wr HST.out)
        rw [(tx_dOf L id).1, (tx_dOf L id).2] at HG
        have HRG := Lib.hid (fun W g => refGetM_any A c L (by omega) id W g)
        obtain ⟨G, hG⟩ : ∃ G, getMc L id = G := ⟨_, rfl⟩
        rw [hG] at HG HRG
        obtain ⟨gs, gb⟩ := G
        simp only at HG HRG
        clear hG
        go_wp2_with fail
        refine HG.out.mono ?_
        rintro e w3 ⟨rfl, hb3⟩
        have HR3 := Lib.hid (HRM.out.next hb3)
        have HB3 := Lib.hid (HBW.out.trans (hb3.mono HBW.out.size))
        clear hb3
        go_wp2_with fail
        refine (HRG.out _ HR3.out).mono ?_
        rintro e w4 ⟨rfl, hb4⟩
        have HB4 := Lib.hid (HB3.out.trans (hb4.mono HB3.out.size))
        have hbq : (gs.toList == gs.toList) = true := by simp
        clear hb4
        go_wp2_with fail
        go_ret
        exact ⟨by simp, HB4.out⟩
    · have c1 : ¬ (k : Int) < (acts.length : Int) := by omega
      have HG := Lib.hid (getM_any S m k (dOf L) id hid wr HST.out)
      rw [(tx_dOf L id).1, (tx_dOf L id).2] at HG
      have HRG := Lib.hid (fun W g => refGetM_any A c L (by omega) id W g)
      obtain ⟨G, hG⟩ : ∃ G, getMc L id = G := ⟨_, rfl⟩
      rw [hG] at HG HRG
      obtain ⟨gs, gb⟩ := G
      simp only at HG HRG
      clear hG
      go_wp2_with fail
      refine HG.out.mono ?_
      rintro e w3 ⟨rfl, hb3⟩
      have HR3 := Lib.hid (HRM.out.next hb3)
      have HB3 := Lib.hid (HBW.out.trans (hb3.mono HBW.out.size))
      clear hb3
      go_wp2_with fail
      refine (HRG.out _ HR3.out).mono ?_
      rintro e w4 ⟨rfl, hb4⟩
      have HB4 := Lib.hid (HB3.out.trans (hb4.mono HB3.out.size))
      have hbq : (gs.toList == gs.toList) = true := by simp
      clear hb4
      go_wp2_with fail
      go_ret
      exact ⟨by simp, HB4.out⟩

set_option maxRecDepth 100000 in
/-- What the walk gives, for every argument and every world that holds the table. -/
theorem contract (H : Type) (enc : TypeId × Value → H) (W : World) (base : Nat) (args : Array Value) (ds gs : List (DataW H)) (before : List MemPlace)
    (hval : ∀ (j : Nat) t v, Tryz.f3.params[j]? = some t → args[j]? = some v → Value.okWide Tryz.prog W .any base t v)
    (hW : DataW.Whole enc Tryz.prog Tryz.f3.params.toList Rows.macroStoresSpec.vars false W args.toList ds gs before) (hL : laidMetH Tryz.prog Rows.macroStoresRow.laid W)
    (hreach : (DataW.weightsEach Tryz.prog (Tryz.f3.params.toList ++ []) (ds ++ gs)).all (· ≤ reachBytes) = true) :
    Calls Tryz.prog 3 args W fun e W' => ∃ v, e = .returned v ∧ Rows.macroStoresSpec.post enc Tryz.prog Tryz.f3 false true false false W args v W' := by
  have hW' := hW
  have ht := tenH hL
  have hs := errH hL
  have hlts : ∀ x ∈ before, x.block < W.heap.size := fun x hx => hW'.lt x hx
  obtain ⟨p, q, hA0, hV, rfl, hfz, hnd⟩ := hW
  have hA : DataW.TrodAll enc Tryz.prog W 0 (fun _ => true) true Tryz.f3.params.toList args.toList ds p := hA0
  rw [Tryz.params3] at hA hval hreach
  obtain ⟨v0, vs0, d0, ds0, pp0, qq0, hargs, rfl, rfl, h0, rr0⟩ := trodAll_cons hA
  obtain ⟨v1, vs1, d1, ds1, pp1, qq1, rfl, rfl, rfl, h1, rr1⟩ := trodAll_cons rr0
  obtain ⟨rfl, rfl, rfl⟩ := trodAll_nil rr1
  obtain rfl : args = #[v0, v1] := by cases args; simp_all
  obtain ⟨rfl, rfl⟩ := trodVars_none hV
  obtain ⟨b0, len0, cap0, rfl⟩ := okWide_slice Tryz.underlying22 (hval 0 22 v0 rfl rfl)
  obtain ⟨l0, hlen0, hm0, hok0, hri0⟩ := am_in h0
  subst hlen0
  obtain ⟨a1, rfl, rfl, rfl, w1⟩ := open_int Tryz.underlying3 (hval 1 3 v1 rfl rfl) h1
  have lo1 := bounds_i64 w1
  clear hA0
  refine (walk b0 cap0 l0 hm0 hok0 a1 lo1 W ht hs hri0).mono fun e W' ⟨he, hb⟩ => ?_
  subst he
  exact ⟨_, rfl, post_law laidOut (by kernel_rfl) (by kernel_rfl) rfl hW' rfl hb⟩

set_option maxRecDepth 100000 in
theorem laid_met (os : Os) : laidMet Tryz.prog Rows.macroStoresRow.laid ((laidWorldH os).forCall (fun _ _ => 0) ⟨#[], #[Value.slice none 0 0, Value.int .i64 0], []⟩).memory :=
  laid_metH os _
set_option maxRecDepth 100000 in
theorem reads (os : Os) {H : Type} (enc : TypeId × Value → H) : ∃ places, DataW.whole enc Tryz.prog ((laidWorldH os).forCall (fun _ _ => 0) ⟨#[], #[Value.slice none 0 0, Value.int .i64 0], []⟩).memory Tryz.f3.params.toList Rows.macroStoresSpec.vars false (#[Value.slice none 0 0, Value.int .i64 0] : Array Value).toList 8 = some ([.nil, .lit (.int .i64 0)], [], places) :=
  ⟨[], by kernel_rfl⟩

set_option maxRecDepth 100000 in
theorem lifted (os : Os) (started : os.Started) (H : Type) (enc : TypeId × Value → H) (F : Stop.Interp) :
    ReturnsInHanded {} Tryz.checked os 3 .any ((OpenSpec.ofChange Rows.macroStoresSpec).preRow enc Tryz.prog Tryz.f3 Rows.macroStoresRow.domain false Rows.macroStoresRow.laid) (((OpenSpec.ofChange Rows.macroStoresSpec).at F).post enc Tryz.prog Tryz.f3 false true false false) := by
  obtain ⟨places, hx⟩ := reads os enc
  refine returnsInHanded_of_row (C := Tryz.checked) (s := OpenSpec.ofChange Rows.macroStoresSpec) own started (by kernel_rfl) Tryz.func3
    (witness_row_atRef (enc := enc) (C := Tryz.checked) false (laidWorldH os) #[Value.slice none 0 0, Value.int .i64 0] rfl (by kernel_rfl) (by kernel_rfl) (by kernel_rfl)
      (OpenSpec.preRow_of_cond 8 hx (by kernel_rfl) (fun k hk => by cases hk) (by kernel_rfl) (laid_met os))) ?_
  intro W base args ds gs before hval hW _ _ hreach hL _ _
  exact contract H enc W base args ds gs before hval hW hL hreach

theorem said : Rows.MacroStoresSaid :=
  OpenClaim.holds_of_cond 3 Tryz.f3 rfl rfl rfl rfl rfl rfl rfl ⟨rfl, rfl, rfl, rfl, rfl⟩ rfl rfl rfl rfl rfl (by kernel_rfl) Tryz.func3 (by kernel_rfl)
    (of_decide_eq_true (by kernel_rfl)) (by unfold Func.isWrapper; first | (rw [if_pos (by decide +kernel)]; kernel_rfl) | (rw [if_neg (by decide +kernel)]; exact ⟨rfl, rfl⟩))
    (fun os started H enc _ F => by rw [OpenClaim.pre_eq_preRow]; exact lifted os started H enc F)

theorem plain (f : FuncId) (fn : Func) (hf : Tryz.pinned.checked.prog.funcNamed "phosphor/phosphorlaw20.MacroStores" = some f) (hfn : Tryz.pinned.checked.prog.funcs[f]? = some fn) :
    true = Tryz.pinned.checked.prog.looks [] ∧ ∀ (j : Nat) t, fn.params[j]? = some t → Tryz.pinned.checked.prog.wantsStandIn t = false := by
  obtain rfl : f = 3 := Option.some.inj ((show Tryz.prog.funcNamed "phosphor/phosphorlaw20.MacroStores" = some 3 by kernel_rfl).symm.trans hf) |>.symm
  obtain rfl : fn = Tryz.f3 := (Option.some.inj (Tryz.func3.symm.trans hfn)).symm
  refine ⟨by kernel_rfl, fun j t ht => ?_⟩
  rw [Tryz.params3] at ht
  have hm : t ∈ [22, 3] := by simpa using Array.mem_of_getElem? ht
  have hall : ([22, 3].all fun u => !Tryz.prog.wantsStandIn u) = true := by kernel_rfl
  exact (show Tryz.prog.wantsStandIn t = false by simpa using List.all_eq_true.1 hall t hm)

/-- The card. -/
theorem card : Rows.MacroStoresCardSaid :=
  Claim7.holds_tied_plain_at .later [] _ _ _ _ said (fun _ h => by cases h) (by kernel_rfl) (fun _ h => by cases h) macroStores_row_tie rfl ⟨rfl, rfl⟩ (by kernel_rfl) rfl plain (by kernel_rfl)
#print axioms card
end Go.Proofs.YtnbbepkkedhhgaaGreatDoor.macroStores

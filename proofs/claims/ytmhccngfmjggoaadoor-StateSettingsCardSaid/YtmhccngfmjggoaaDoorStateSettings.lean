/-
  StateSettings holds, whatever the input: the card of the statement, with the tables of the modes, of the renditions' parts, of the sets' faces and the library's three tables tied to the program's text.
-/
import Derived.Test.YtmhccngfmjggoaaDoorCards
import Derived.Test.YtmhccngfmjggoaaDoorTie
import Derived.Test.YtmhccngfmjggoaaDoorFrameS
import Derived.Test.YtmhccngfmjggoaaDoorStaI
import Derived.Test.YtmhccngfmjggoaaDoorStaJ
namespace Go.Proofs.YtmhccngfmjggoaaDoor.stateSettings
open Go.ChangeShapes Go.WideShapes Go.ChangeAt Go.RowKit
open Go.ChangeMaps (open_string)

def idsL (id : ByteArray) : List ByteArray := [id, ⟨#[109]⟩, ⟨#[114]⟩, ⟨#[115]⟩, ⟨#[34, 113]⟩, ⟨#[34, 112]⟩, ⟨#[42, 120]⟩, ⟨#[116]⟩, ⟨#[36, 124]⟩, ⟨#[36, 126]⟩, ⟨#[36, 125]⟩]
theorem stgV_form (y : Co) (id : ByteArray) : ∃ a b, stgV y id = .tuple #[.string a, .bool b] := by
  unfold stgV
  split
  · exact ⟨_, _, rfl⟩
  · exact ⟨_, _, rfl⟩
set_option maxRecDepth 100000 in
set_option maxHeartbeats 8000000 in
theorem walk (x : Co) (mz : Int) (lo : 0 ≤ x.K.rd) (hi : x.K.rd ≤ 255) (id : ByteArray) (_hsz : id.size ≤ maxLen) (w : World) (ht : Tab w) (hfc : Faces w) (htn : Ten w) (hmd : Mods w) :
    Calls Tryd.prog 3 #[.agg (coZ x mz), .string id] w fun e w' => e = .returned (.bool true) ∧ Below w.heap.size w w' := by
  have HAw := Lib.hid (fun V t f n m => awakeS_any V t f n m)
  have HSm := Lib.hid (fun V => small_any x mz V)
  have hT := Lib.hid ht; have hF := Lib.hid hfc; have hN := Lib.hid htn; have hM := Lib.hid hmd
  have hS : (coZ x mz).size = 29 := rfl
  have HS := Lib.hid ((Bs.nil w).alloc 33 (coZ x mz))
  clear ht hfc htn hmd
  rcases hsm : smK x.f mz with _ | _
  · rw [hsm] at HSm
    generalize coZ x mz = X at *
    clear hsm lo hi
    go_enter Tryd.func3, Tryd.ntmps3
    go_wp2_with fail
    refine (HAw.out _ (hT.out.next HS.out.bel) (hF.out.next HS.out.bel) (hN.out.next HS.out.bel) (hM.out.next HS.out.bel)).mono ?_
    rintro e w1 ⟨rfl, hb⟩
    have HK1 := Lib.hid (HS.out.next hb)
    clear hb HS
    go_wp2_with (first | (refine wpList_load_row rfl _ _ rfl w.heap.size rfl _ X (0, 0) _ HK1.out.b0 under_cr rfl (by rw [hS]; exact info_cr) ?_))
    refine (HSm.out _).mono ?_
    rintro e w2 ⟨rfl, hb⟩
    have HK2 := Lib.hid (HK1.out.next hb)
    clear hb HK1
    go_wp2_with fail
    go_ret
    exact ⟨rfl, HK2.out.bel⟩
  · have hb : 0 ≤ mz ∧ mz < 4294967296 ∧ x.f.pb ≤ 60000 ∧ x.f.pr ≤ 60000 := by
      unfold smK at hsm
      simpa [Bool.and_eq_true, and_assoc] using hsm
    rw [hsm] at HSm
    obtain ⟨z, hz⟩ : ∃ z : Co, z = { x with m := mz.toNat } := ⟨_, rfl⟩
    have hzX : coZ x mz = coC .i64 z := by
      have e : ((mz.toNat : Nat) : Int) = mz := by omega
      subst hz
      unfold coZ coC
      simp only [e]
    have hzm : z.m < 2 ^ 32 := by subst hz; show mz.toNat < 2 ^ 32; omega
    obtain ⟨H, W, it, il, ib, ir, hfr⟩ := fr_ok z.f (by subst hz; exact hb.2.2.1) (by subst hz; exact hb.2.2.2)
    have lo' : 0 ≤ z.K.rd := by subst hz; exact lo
    have hi' : z.K.rd ≤ 255 := by subst hz; exact hi
    have HOw := Lib.hid (fun V => coOwn_any hzm V)
    have HSe := Lib.hid (fun e V t f n => setting_any hfr lo' hi' hzm e V t f n)
    have HRs := Lib.hid (fun e V => refSetting_any hfr lo' hi' e V)
    have HFo := Lib.hid (fun e => stgV_form (clnP z H W it il ib ir) e)
    generalize clnP z H W it il ib ir = y at *
    rw [hzX] at HS HSm hS ⊢
    clear hzX hz hzm hfr lo' hi' hb hsm lo hi
    unfold coV at *
    generalize coC .u32 z = XU at *
    generalize coC .i64 z = X at *
    go_enter Tryd.func3, Tryd.ntmps3
    go_wp2_with fail
    refine (HAw.out _ (hT.out.next HS.out.bel) (hF.out.next HS.out.bel) (hN.out.next HS.out.bel) (hM.out.next HS.out.bel)).mono ?_
    rintro e w1 ⟨rfl, hb⟩
    have HK1 := Lib.hid (HS.out.next hb)
    clear hb HS
    go_wp2_with (first | (refine wpList_load_row rfl _ _ rfl w.heap.size rfl _ X (0, 0) _ HK1.out.b0 under_cr rfl (by rw [hS]; exact info_cr) ?_))
    refine (HSm.out _).mono ?_
    rintro e w2 ⟨rfl, hb⟩
    have HK2 := Lib.hid (HK1.out.next hb)
    clear hb HK1 HAw HSm hM
    have HN := Lib.hid (HK2.out.alloc 9 #[.string id, .string ⟨#[109]⟩, .string ⟨#[114]⟩, .string ⟨#[115]⟩, .string ⟨#[34, 113]⟩, .string ⟨#[34, 112]⟩, .string ⟨#[42, 120]⟩, .string ⟨#[116]⟩, .string ⟨#[36, 124]⟩, .string ⟨#[36, 126]⟩, .string ⟨#[36, 125]⟩])
    obtain ⟨bs, hbs⟩ : ∃ bs, bs = w2.heap.size := ⟨_, rfl⟩
    --#1
    go_wp2_with fail
    --#2
    go_loopw [19] (fun i wr => ∃ k : Nat, k ≤ 11 ∧ i = .int .i64 k ∧ Bs w [(w2.heap.size, 9, ((idsL id).map Value.string).toArray), (w.heap.size, 33, X)] wr) (fun i _ => 11 - (intOf i).toNat)
    case atStart => exact ⟨0, by omega, rfl, HN.out⟩
    case round =>
      obtain ⟨k, hk, rfl, hB⟩ := hrel
      replace hB := Lib.hid hB
      clear HN HK2 hbs
      by_cases hlt : k < 11
      · obtain ⟨e, he⟩ : ∃ e, (idsL id)[k]? = some e := ⟨_, List.getElem?_eq_getElem (by show k < 11; omega)⟩
        have hcell : wr.cell? ⟨w2.heap.size, k, none⟩ = some (.string e) := (Blk.cell hB.out.b0 k).trans (by rw [List.getElem?_toArray, List.getElem?_map, he]; rfl)
        obtain ⟨a, b, hab⟩ := HFo.out e
        have HSek := Lib.hid (fun V t f n => HSe.out e V t f n); have HRsk := Lib.hid (fun V => HRs.out e V)
        rw [hab] at HSek HRsk
        clear he hab HSe HRs HFo
        --#3
        go_upto_region 8 with fail
        go_wp2_with (first | (refine wpList_load_row rfl _ _ rfl w.heap.size rfl _ X (0, 0) _ hB.out.b1 under_cr rfl (by rw [hS]; exact info_cr) ?_))
        refine (HOw.out _).mono ?_
        rintro e1 w3 ⟨rfl, hb⟩
        have hB3 := Lib.hid (hB.out.next hb)
        clear hb hB hcell
        go_wp2_with fail
        refine (HSek.out _ (hT.out.next hB3.out.bel) (hF.out.next hB3.out.bel) (hN.out.next hB3.out.bel)).mono ?_
        rintro e1 w4 ⟨rfl, hb⟩
        have hB4 := Lib.hid (hB3.out.next hb)
        clear hb hB3 HSek
        --#4
        go_wp2_with (first | (refine wpList_load_row rfl _ _ rfl w.heap.size rfl _ X (0, 0) _ hB4.out.b1 under_cr rfl (by rw [hS]; exact info_cr) ?_))
        refine (HRsk.out _).mono ?_
        rintro e1 w5 ⟨rfl, hb⟩
        have hB5 := Lib.hid (hB4.out.next hb)
        clear hb hB4 HRsk HOw hT hF hN
        --#5
        go_wp2_with fail
        --#6
        go_roundw
        case rel => exact ⟨k + 1, by omega, by simp, hB5.out⟩
        case measure => simp [intOf]; omega
      · obtain rfl : k = 11 := by omega
        clear HSe HRs HOw HFo hT hF hN
        --#7
        go_wp2_with fail
        go_ret
        exact ⟨rfl, hB.out.bel⟩

set_option maxRecDepth 100000 in
/-- What the walk gives, for every argument and every world that holds the table. -/
theorem contract (H : Type) (enc : TypeId × Value → H) (W : World) (base : Nat) (args : Array Value) (ds gs : List (DataW H)) (before : List MemPlace)
    (hval : ∀ (j : Nat) t v, Tryd.f3.params[j]? = some t → args[j]? = some v → Value.okWide Tryd.prog W .any base t v)
    (hW : DataW.Whole enc Tryd.prog Tryd.f3.params.toList Rows.stateSettingsSpec.vars false W args.toList ds gs before) (hL : laidMetH Tryd.prog Rows.stateSettingsRow.laid W)
    (hreach : (DataW.weightsEach Tryd.prog (Tryd.f3.params.toList ++ []) (ds ++ gs)).all (· ≤ reachBytes) = true) :
    Calls Tryd.prog 3 args W fun e W' => ∃ v, e = .returned v ∧ Rows.stateSettingsSpec.post enc Tryd.prog Tryd.f3 false true false false W args v W' := by
  have hW' := hW
  have ht := tabS hL
  have hs := facesS hL
  have hn := tenS hL
  have hm := modsS hL
  have hlts : ∀ x ∈ before, x.block < W.heap.size := fun x hx => hW'.lt x hx
  obtain ⟨p, q, hA0, hV, rfl, hfz, hnd⟩ := hW
  have hA : DataW.TrodAll enc Tryd.prog W 0 (fun _ => true) true Tryd.f3.params.toList args.toList ds p := hA0
  rw [Tryd.params3] at hA hval hreach
  obtain ⟨v0, vs0, d0, ds0, pp0, qq0, hargs, rfl, rfl, h0, rr0⟩ := trodAll_cons hA
  obtain ⟨v1, vs1, d1, ds1, pp1, qq1, rfl, rfl, rfl, h1, rr1⟩ := trodAll_cons rr0
  obtain ⟨rfl, rfl, rfl⟩ := trodAll_nil rr1
  obtain rfl : args = #[v0, v1] := by cases args; simp_all
  obtain ⟨rfl, rfl⟩ := trodVars_none hV
  obtain ⟨x0, mz0, rfl, lo0, hi0⟩ := core_in (hval 0 33 v0 rfl rfl) h0
  obtain ⟨s1, rfl, rfl, rfl, hs1⟩ := open_string Tryd.underlying9 (hval 1 9 v1 rfl rfl) h1
  clear hA0
  refine (walk x0 mz0 lo0 hi0 s1 hs1 W ht hs hn hm).mono fun e W' ⟨he, hb⟩ => ?_
  subst he
  exact ⟨_, rfl, post_law laidOut (by kernel_rfl) (by kernel_rfl) rfl hW' rfl hb⟩

set_option maxRecDepth 100000 in
theorem laid_met (os : Os) : laidMet Tryd.prog Rows.stateSettingsRow.laid ((laidWorldS os).forCall (fun _ _ => 0) ⟨#[], #[Value.agg #[.int .i64 0, .int .i64 0, .int .u8 0, .bool false, .bool false, .bool false, .int .i64 0, .int .i64 0, .int .i64 0, .int .i64 0, .int .i64 0, .int .i64 0, .int .i64 0, .int .i64 0, .int .i64 0, .int .i64 0, .int .i64 0, .int .i64 0, .int .i64 0, .int .i64 0, .int .i64 0, .int .i64 0, .int .i64 0, .bool false, .bool false, .int .i64 0, .bool false, .int .i64 0, .int .i64 0], Value.string ⟨#[]⟩], []⟩).memory :=
  laidMet_of_run' 8 (by kernel_rfl) (by kernel_rfl)
set_option maxRecDepth 100000 in
theorem reads (os : Os) {H : Type} (enc : TypeId × Value → H) : ∃ places, DataW.whole enc Tryd.prog ((laidWorldS os).forCall (fun _ _ => 0) ⟨#[], #[Value.agg #[.int .i64 0, .int .i64 0, .int .u8 0, .bool false, .bool false, .bool false, .int .i64 0, .int .i64 0, .int .i64 0, .int .i64 0, .int .i64 0, .int .i64 0, .int .i64 0, .int .i64 0, .int .i64 0, .int .i64 0, .int .i64 0, .int .i64 0, .int .i64 0, .int .i64 0, .int .i64 0, .int .i64 0, .int .i64 0, .bool false, .bool false, .int .i64 0, .bool false, .int .i64 0, .int .i64 0], Value.string ⟨#[]⟩], []⟩).memory Tryd.f3.params.toList Rows.stateSettingsSpec.vars false (#[Value.agg #[.int .i64 0, .int .i64 0, .int .u8 0, .bool false, .bool false, .bool false, .int .i64 0, .int .i64 0, .int .i64 0, .int .i64 0, .int .i64 0, .int .i64 0, .int .i64 0, .int .i64 0, .int .i64 0, .int .i64 0, .int .i64 0, .int .i64 0, .int .i64 0, .int .i64 0, .int .i64 0, .int .i64 0, .int .i64 0, .bool false, .bool false, .int .i64 0, .bool false, .int .i64 0, .int .i64 0], Value.string ⟨#[]⟩] : Array Value).toList 8 = some ([.agg [.agg [.lit (.int .i64 0), .lit (.int .i64 0), .lit (.int .u8 0), .lit (.bool false), .lit (.bool false), .lit (.bool false), .agg [.agg [.lit (.int .i64 0), .lit (.int .i64 0), .lit (.int .i64 0), .lit (.int .i64 0)], .lit (.int .i64 0), .lit (.int .i64 0), .lit (.int .i64 0)]], .agg [.agg [.lit (.int .i64 0), .lit (.int .i64 0), .lit (.int .i64 0), .lit (.int .i64 0)], .agg [.lit (.int .i64 0), .lit (.int .i64 0), .lit (.int .i64 0), .lit (.int .i64 0)]], .lit (.int .i64 0), .lit (.int .i64 0), .lit (.bool false), .lit (.bool false), .lit (.int .i64 0), .lit (.bool false), .lit (.int .i64 0), .lit (.int .i64 0)], .lit (.string [])], [], places) :=
  ⟨[], by kernel_rfl⟩

set_option maxRecDepth 100000 in
theorem lifted (os : Os) (started : os.Started) (H : Type) (enc : TypeId × Value → H) (F : Stop.Interp) :
    ReturnsInHanded {} Tryd.checked os 3 .any ((OpenSpec.ofChange Rows.stateSettingsSpec).preRow enc Tryd.prog Tryd.f3 Rows.stateSettingsRow.domain false Rows.stateSettingsRow.laid) (((OpenSpec.ofChange Rows.stateSettingsSpec).at F).post enc Tryd.prog Tryd.f3 false true false false) := by
  obtain ⟨places, hx⟩ := reads os enc
  refine returnsInHanded_of_row (C := Tryd.checked) (s := OpenSpec.ofChange Rows.stateSettingsSpec) own started (by kernel_rfl) Tryd.func3
    (witness_row_at (enc := enc) (C := Tryd.checked) false (laidWorldS os) #[Value.agg #[.int .i64 0, .int .i64 0, .int .u8 0, .bool false, .bool false, .bool false, .int .i64 0, .int .i64 0, .int .i64 0, .int .i64 0, .int .i64 0, .int .i64 0, .int .i64 0, .int .i64 0, .int .i64 0, .int .i64 0, .int .i64 0, .int .i64 0, .int .i64 0, .int .i64 0, .int .i64 0, .int .i64 0, .int .i64 0, .bool false, .bool false, .int .i64 0, .bool false, .int .i64 0, .int .i64 0], Value.string ⟨#[]⟩] rfl (by kernel_rfl) (by kernel_rfl) (by kernel_rfl)
      (OpenSpec.preRow_of_cond 8 hx (by kernel_rfl) (fun k hk => by cases hk) (by kernel_rfl) (laid_met os))) ?_
  intro W base args ds gs before hval hW _ _ hreach hL _ _
  exact contract H enc W base args ds gs before hval hW hL hreach

theorem said : Rows.StateSettingsSaid :=
  OpenClaim.holds_of_cond 3 Tryd.f3 rfl rfl rfl rfl rfl rfl rfl ⟨rfl, rfl, rfl, rfl, rfl⟩ rfl rfl rfl rfl rfl (by kernel_rfl) Tryd.func3 (by kernel_rfl)
    (of_decide_eq_true (by kernel_rfl)) (by unfold Func.isWrapper; first | (rw [if_pos (by decide +kernel)]; kernel_rfl) | (rw [if_neg (by decide +kernel)]; exact ⟨rfl, rfl⟩))
    (fun os started H enc _ F => by rw [OpenClaim.pre_eq_preRow]; exact lifted os started H enc F)

theorem plain (f : FuncId) (fn : Func) (hf : Tryd.pinned.checked.prog.funcNamed "phosphor/phosphorlaw19.StateSettings" = some f) (hfn : Tryd.pinned.checked.prog.funcs[f]? = some fn) :
    false = Tryd.pinned.checked.prog.looks [] ∧ ∀ (j : Nat) t, fn.params[j]? = some t → Tryd.pinned.checked.prog.wantsStandIn t = false := by
  obtain rfl : f = 3 := Option.some.inj ((show Tryd.prog.funcNamed "phosphor/phosphorlaw19.StateSettings" = some 3 by kernel_rfl).symm.trans hf) |>.symm
  obtain rfl : fn = Tryd.f3 := (Option.some.inj (Tryd.func3.symm.trans hfn)).symm
  refine ⟨by kernel_rfl, fun j t ht => ?_⟩
  rw [Tryd.params3] at ht
  have hm : t ∈ [33, 9] := by simpa using Array.mem_of_getElem? ht
  have hall : ([33, 9].all fun u => !Tryd.prog.wantsStandIn u) = true := by kernel_rfl
  exact (show Tryd.prog.wantsStandIn t = false by simpa using List.all_eq_true.1 hall t hm)

/-- The card. -/
theorem card : Rows.StateSettingsCardSaid :=
  Claim7.holds_tied_plain_at .later [] _ _ _ _ said (fun _ h => by cases h) (by kernel_rfl) (fun _ h => by cases h) stateSettings_row_tie rfl ⟨rfl, rfl⟩ (by kernel_rfl) rfl plain (by kernel_rfl)
#print axioms card
end Go.Proofs.YtmhccngfmjggoaaDoor.stateSettings

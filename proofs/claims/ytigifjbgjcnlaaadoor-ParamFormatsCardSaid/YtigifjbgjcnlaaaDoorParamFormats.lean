/-
  ParamFormats holds, whatever the input: the card of the statement, with the library's three tables tied to the program's text.
-/
import Derived.Test.YtigifjbgjcnlaaaDoorCards
import Derived.Test.YtigifjbgjcnlaaaDoorTie
import Derived.Test.YtigifjbgjcnlaaaDoorFrameP
import Derived.Test.YtigifjbgjcnlaaaDoorFrameE
import Derived.Test.YtigifjbgjcnlaaaDoorAwakeP
import Derived.Test.YtigifjbgjcnlaaaDoorParM
import Derived.Test.YtigifjbgjcnlaaaDoorKit3
import Derived.Test.YtigifjbgjcnlaaaDoorParV
import Derived.Test.YtigifjbgjcnlaaaDoorParP
namespace Go.Proofs.YtigifjbgjcnlaaaDoor.paramFormats
open Go.ChangeShapes Go.WideShapes Go.ChangeAt Go.RowKit
open Go.ChangeMaps (open_string)

set_option maxHeartbeats 4000000 in
theorem walk (A : Option Addr) (c : Nat) (l : List Int) (hm : l.length ≤ 17592186043904) (hc : l.length ≤ c) (w : World) (ht : Ten w) (hr : RInts w A l) :
    Calls Tryd.prog 4 #[.slice A l.length c] w fun e w' => e = .returned (.bool true) ∧ Below w.heap.size w w' := by
  have hr2 := rints_take hr 60
  obtain ⟨ns, hns, h60, hcase⟩ : ∃ ns : List Int, ns = l.take 60 ∧ ns.length ≤ 60 ∧ ((l = ns ∧ ¬ 60 < l.length) ∨ (60 < l.length ∧ 60 = ns.length)) := by
    by_cases h : 60 < l.length
    · exact ⟨_, rfl, by rw [List.length_take]; omega, .inr ⟨h, by rw [List.length_take]; omega⟩⟩
    · exact ⟨_, rfl, by rw [List.length_take]; omega, .inl ⟨(List.take_of_length_le (by omega)).symm, h⟩⟩
  have hcn : ns.length ≤ c := by rw [hns, List.length_take]; omega
  rw [← hns] at hr2
  clear hns hr
  obtain ⟨hfo, hfb⟩ := fmt_back ns
  have hfl := fmt_len ns
  have hbs : (bytesOf (fmtL ns)).size = (fmtL ns).length := by show (fmtL ns).toArray.size = _; simp
  have HP := Lib.hid (parse_yes (bytesOf (fmtL ns)) (by unfold maxLen; omega) hfo)
  have HPd : Hid (numsOf (bytesOf (fmtL ns)).data.toList = (ns.take 30).map clip65) := Lib.hid hfb
  rw [HPd.out] at HP
  have HF := Lib.hid (fun A c W h1 h2 => format_any A c ns (by unfold maxLen; omega) h1 W h2)
  have HRF := Lib.hid (refFormat_any A c ns (by unfold maxLen; omega))
  have HS := Lib.hid (fun A B c d W h1 h2 => sameInts_any A B c d ns ns (by unfold maxLen; omega) (by unfold maxLen; omega) W h1 h2)
  have hb30 : ((ns.take 30).map clip65).length = min ns.length 30 := by rw [List.length_map, List.length_take, Nat.min_comm]
  have hat : ∀ k (h : k < ((ns.take 30).map clip65).length), ∃ h2 : k < ns.length, ((ns.take 30).map clip65)[k] = max 0 (min ns[k] 65535) := fun k h => by
    have h2 : k < ns.length := by rw [hb30] at h; omega
    exact ⟨h2, by simp [clip65, clipP]⟩
  have HAt := Lib.hid hat
  generalize (ns.take 30).map clip65 = bs at *
  have hbl : bs.length ≤ 30 := by omega
  have hmin : (min (ns.length : Int) 30) = (bs.length : Int) := by omega
  have HMin := Lib.hid hmin
  generalize bytesOf (fmtL ns) = txt at *
  clear hb30 hat hmin hfo hfb hfl hbs HPd
  obtain ⟨i0, hi0, hz0, hz1, hz2⟩ := info_parts info_int
  have HI := Lib.hid hi0; have HZ0 := Lib.hid hz0; have HZ1 := Lib.hid hz1; have HZ2 := Lib.hid hz2
  clear hi0 hz0 hz1 hz2
  have HTest : Hid (((bs.length : Int) != min (ns.length : Int) 30) = false) := Lib.hid (by rw [HMin.out]; simp)
  have HLe : Hid (bs.length ≤ ns.length) := Lib.hid (by have := HMin.out; omega)
  have hreads : Reads w w.heap.size 1 A ns.length (ns.map (Value.int .i64)) := hr2
  have HReads := Lib.hid hreads
  clear HMin hreads
  have HEq : Hid ((ns == ns) = true) := Lib.hid (by simp)
  rcases hcase with ⟨rfl, hlen⟩ | ⟨hlen, hn60⟩
  rotate_left
  · rw [← hn60] at HF HRF HS HTest HLe HReads hcn
    clear hn60 hm hc h60
    have htest : ((bs.length : Int) != min 60 30) = false := HTest.out
    go_enter Tryd.func4, Tryd.ntmps4
    go_wp2_with fail
    refine (awakeP_any _ ht).mono ?_
    rintro e w1 ⟨rfl, hb⟩
    have hb0 : Below w.heap.size w (w1.alloc (.cells #[] 3)) := hb.alloc hb.size _
    have hown := World.ownsRow_lit (e := 3) (size := 1) w1 #[] 0 (Nat.le_refl _) (Nat.zero_le _) rfl
    have HR := Lib.hid (Reads.below HReads.out hb0); have HO := Lib.hid hown
    have HB0 := Lib.hid hb0; have HW := Lib.hid hb
    clear hown hb0 hb
    go_wp2_with (at_builtin; (refine wpList_append_any _ rfl _ _ 23 rfl w1.heap.size 3 i0 _ 1 8 Tryd.underlying23 HI.out HZ0.out HZ1.out HZ2.out rfl (by decide) _ _ _ rfl HO.out w.heap.size A _ c _ rfl HR.out (fun u hu => by obtain ⟨n, _, rfl⟩ := List.mem_map.1 hu; rfl) (by unfold maxLen; omega) (by omega) (by simp) ?_); intro v' w2 hown2 hg2 hat2)
    have hb1 : Below w1.heap.size (w1.alloc (.cells #[] 3)) w2 := (Below.refl _ _).grown hg2 (by simp) (fun k hk => Nat.le_of_eq (Option.some.inj hk))
    have hb := HB0.out.trans (hb1.mono HW.out.size)
    rw [List.nil_append, Nat.zero_add] at hown2
    obtain ⟨A2, c2, rfl, hc2, hr2'⟩ := own_ints hown2
    have HR2 := Lib.hid hr2'; have HB := Lib.hid hb
    clear hown2 hg2 hat2 HO HR hb1 hb hr2'
    go_wp2_with fail
    refine (HF.out _ _ _ hc2 (ht.next HB.out) HR2.out).mono ?_
    rintro e w3 ⟨rfl, hb3⟩
    replace HR2 := Lib.hid (HR2.out.next hb3)
    replace HB := Lib.hid (HB.out.trans (hb3.mono HB.out.size)); clear hb3
    go_wp2_with fail
    refine (HP.out _).mono ?_
    rintro e w4 ⟨v5, rfl, hown5, hb3⟩
    obtain ⟨A5, c5, rfl⟩ := OInts.form hown5
    have hr5 := OInts.reads hown5
    have HR5 := Lib.hid hr5
    replace HR2 := Lib.hid (HR2.out.next hb3)
    replace HB := Lib.hid (HB.out.trans (hb3.mono HB.out.size)); clear hb3 hown5 hr5
    go_wp2_with fail
    refine (HRF.out _ (hr2.next HB.out)).mono ?_
    rintro e w6 ⟨rfl, hb3⟩
    replace HR2 := Lib.hid (HR2.out.next hb3)
    replace HR5 := Lib.hid (HR5.out.next hb3)
    replace HB := Lib.hid (HB.out.trans (hb3.mono HB.out.size)); clear hb3
    go_wp2_with fail
    refine (HS.out _ _ _ _ _ HR2.out (hr2.next HB.out)).mono ?_
    rintro e w7 ⟨rfl, hb3⟩
    replace HR5 := Lib.hid (HR5.out.next hb3)
    replace HB := Lib.hid (HB.out.trans (hb3.mono HB.out.size)); clear hb3 HR2
    rw [HEq.out]
    have hr5 := HR5.out
    have hrl := hr2.next HB.out
    go_wp2_with fail
    go_loop [50] (fun i => ∃ k : Nat, k ≤ bs.length ∧ i = .int .i64 k) (fun i => bs.length - (intOf i).toNat)
    case atStart => exact ⟨0, by omega, rfl⟩
    case round =>
      obtain ⟨k, hk, rfl⟩ := hrel
      clear htest
      by_cases hlt : k < bs.length
      · obtain ⟨h2, hx⟩ := HAt.out k hlt
        obtain ⟨ad, rfl, _, hcell⟩ := hr5.at_ hlt
        obtain ⟨bd, rfl, _, hcell2⟩ := hrl.at_ h2
        have HX := Lib.hid hx
        have hlt3 := HLe.out
        clear hx
        generalize bs[k] = x at *
        generalize ns[k] = y at *
        have htx : (x != max 0 (min y 65535)) = false := by rw [HX.out]; simp
        go_wp2_with fail
        go_round
        case rel => exact ⟨k + 1, by omega, by go_num⟩
        case measure => simp [intOf]; omega
      · obtain rfl : k = bs.length := by omega
        go_wp2_with fail
        go_ret
        exact ⟨rfl, HB.out⟩
  · clear hm hc
    have htest := HTest.out
    go_enter Tryd.func4, Tryd.ntmps4
    go_wp2_with fail
    refine (awakeP_any _ ht).mono ?_
    rintro e w1 ⟨rfl, hb⟩
    have hb0 : Below w.heap.size w (w1.alloc (.cells #[] 3)) := hb.alloc hb.size _
    have hown := World.ownsRow_lit (e := 3) (size := 1) w1 #[] 0 (Nat.le_refl _) (Nat.zero_le _) rfl
    have HR := Lib.hid (Reads.below HReads.out hb0); have HO := Lib.hid hown
    have HB0 := Lib.hid hb0; have HW := Lib.hid hb
    clear hown hb0 hb
    go_wp2_with (at_builtin; (refine wpList_append_any _ rfl _ _ 23 rfl w1.heap.size 3 i0 _ 1 8 Tryd.underlying23 HI.out HZ0.out HZ1.out HZ2.out rfl (by decide) _ _ _ rfl HO.out w.heap.size A _ c _ rfl HR.out (fun u hu => by obtain ⟨n, _, rfl⟩ := List.mem_map.1 hu; rfl) (by unfold maxLen; omega) (by omega) (by simp) ?_); intro v' w2 hown2 hg2 hat2)
    have hb1 : Below w1.heap.size (w1.alloc (.cells #[] 3)) w2 := (Below.refl _ _).grown hg2 (by simp) (fun k hk => Nat.le_of_eq (Option.some.inj hk))
    have hb := HB0.out.trans (hb1.mono HW.out.size)
    rw [List.nil_append, Nat.zero_add] at hown2
    obtain ⟨A2, c2, rfl, hc2, hr2'⟩ := own_ints hown2
    have HR2 := Lib.hid hr2'; have HB := Lib.hid hb
    clear hown2 hg2 hat2 HO HR hb1 hb hr2'
    go_wp2_with fail
    refine (HF.out _ _ _ hc2 (ht.next HB.out) HR2.out).mono ?_
    rintro e w3 ⟨rfl, hb3⟩
    replace HR2 := Lib.hid (HR2.out.next hb3)
    replace HB := Lib.hid (HB.out.trans (hb3.mono HB.out.size)); clear hb3
    go_wp2_with fail
    refine (HP.out _).mono ?_
    rintro e w4 ⟨v5, rfl, hown5, hb3⟩
    obtain ⟨A5, c5, rfl⟩ := OInts.form hown5
    have hr5 := OInts.reads hown5
    have HR5 := Lib.hid hr5
    replace HR2 := Lib.hid (HR2.out.next hb3)
    replace HB := Lib.hid (HB.out.trans (hb3.mono HB.out.size)); clear hb3 hown5 hr5
    go_wp2_with fail
    refine (HRF.out _ (hr2.next HB.out)).mono ?_
    rintro e w6 ⟨rfl, hb3⟩
    replace HR2 := Lib.hid (HR2.out.next hb3)
    replace HR5 := Lib.hid (HR5.out.next hb3)
    replace HB := Lib.hid (HB.out.trans (hb3.mono HB.out.size)); clear hb3
    go_wp2_with fail
    refine (HS.out _ _ _ _ _ HR2.out (hr2.next HB.out)).mono ?_
    rintro e w7 ⟨rfl, hb3⟩
    replace HR5 := Lib.hid (HR5.out.next hb3)
    replace HB := Lib.hid (HB.out.trans (hb3.mono HB.out.size)); clear hb3 HR2
    rw [HEq.out]
    have hr5 := HR5.out
    have hrl := hr2.next HB.out
    go_wp2_with fail
    go_loop [50] (fun i => ∃ k : Nat, k ≤ bs.length ∧ i = .int .i64 k) (fun i => bs.length - (intOf i).toNat)
    case atStart => exact ⟨0, by omega, rfl⟩
    case round =>
      obtain ⟨k, hk, rfl⟩ := hrel
      clear htest
      by_cases hlt : k < bs.length
      · obtain ⟨h2, hx⟩ := HAt.out k hlt
        obtain ⟨ad, rfl, _, hcell⟩ := hr5.at_ hlt
        obtain ⟨bd, rfl, _, hcell2⟩ := hrl.at_ h2
        have HX := Lib.hid hx
        have hlt3 := HLe.out
        clear hx
        generalize bs[k] = x at *
        generalize l[k] = y at *
        have htx : (x != max 0 (min y 65535)) = false := by rw [HX.out]; simp
        go_wp2_with fail
        go_round
        case rel => exact ⟨k + 1, by omega, by go_num⟩
        case measure => simp [intOf]; omega
      · obtain rfl : k = bs.length := by omega
        go_wp2_with fail
        go_ret
        exact ⟨rfl, HB.out⟩

/-- What the walk gives, for every argument and every world that holds the table. -/
theorem contract (H : Type) (enc : TypeId × Value → H) (W : World) (base : Nat) (args : Array Value) (ds gs : List (DataW H)) (before : List MemPlace)
    (hval : ∀ (j : Nat) t v, Tryd.f4.params[j]? = some t → args[j]? = some v → Value.okWide Tryd.prog W .any base t v)
    (hW : DataW.Whole enc Tryd.prog Tryd.f4.params.toList Rows.paramFormatsSpec.vars false W args.toList ds gs before) (hL : laidMetH Tryd.prog Rows.paramFormatsRow.laid W)
    (hreach : (DataW.weightsEach Tryd.prog (Tryd.f4.params.toList ++ []) (ds ++ gs)).all (· ≤ reachBytes) = true) :
    Calls Tryd.prog 4 args W fun e W' => ∃ v, e = .returned v ∧ Rows.paramFormatsSpec.post enc Tryd.prog Tryd.f4 false true false false W args v W' := by
  have hW' := hW
  have ht := ten_of hL
  have hlts : ∀ x ∈ before, x.block < W.heap.size := fun x hx => hW'.lt x hx
  obtain ⟨p, q, hA0, hV, rfl, hfz, hnd⟩ := hW
  have hA : DataW.TrodAll enc Tryd.prog W 0 (fun _ => true) true Tryd.f4.params.toList args.toList ds p := hA0
  rw [Tryd.params4] at hA hval hreach
  obtain ⟨v0, vs0, d0, ds0, p0, q0, hargs, rfl, rfl, h0, r0⟩ := trodAll_cons hA
  obtain ⟨rfl, rfl, rfl⟩ := trodAll_nil r0
  obtain rfl : args = #[v0] := by cases args; simp_all
  obtain ⟨rfl, rfl⟩ := trodVars_none hV
  obtain ⟨b0, len0, cap0, rfl⟩ := okWide_slice Tryd.underlying23 (hval 0 23 v0 rfl rfl)
  have hin0 := ints_in2 h0 (fun el sp e => by subst e; exact sized_slice hreach (j := 0) rfl rfl Tryd.underlying23)
  obtain ⟨ns0, hlen0, hm0, hc0, hri0⟩ := hin0
  subst hlen0
  clear hA0
  refine (walk b0 cap0 ns0 hm0 hc0 W ht hri0).mono fun e W' ⟨he, hb⟩ => ?_
  subst he
  exact ⟨_, rfl, post_law laidOut (by kernel_rfl) (by kernel_rfl) rfl hW' rfl hb⟩

theorem laid_met (os : Os) : laidMet Tryd.prog Rows.paramFormatsRow.laid ((laidWorld os).forCall (fun _ _ => 0) ⟨#[], #[Value.slice none 0 0], []⟩).memory :=
  laidMet_of_run' 8 (by kernel_rfl) (by kernel_rfl)
theorem reads (os : Os) {H : Type} (enc : TypeId × Value → H) : ∃ places, DataW.whole enc Tryd.prog ((laidWorld os).forCall (fun _ _ => 0) ⟨#[], #[Value.slice none 0 0], []⟩).memory Tryd.f4.params.toList Rows.paramFormatsSpec.vars false (#[Value.slice none 0 0] : Array Value).toList 8 = some ([.nil], [], places) :=
  ⟨[], by kernel_rfl⟩

set_option maxRecDepth 100000 in
theorem lifted (os : Os) (started : os.Started) (H : Type) (enc : TypeId × Value → H) (F : Stop.Interp) :
    ReturnsInHanded {} Tryd.checked os 4 .any ((OpenSpec.ofChange Rows.paramFormatsSpec).preRow enc Tryd.prog Tryd.f4 Rows.paramFormatsRow.domain false Rows.paramFormatsRow.laid) (((OpenSpec.ofChange Rows.paramFormatsSpec).at F).post enc Tryd.prog Tryd.f4 false true false false) := by
  obtain ⟨places, hx⟩ := reads os enc
  refine returnsInHanded_of_row (C := Tryd.checked) (s := OpenSpec.ofChange Rows.paramFormatsSpec) own started (by kernel_rfl) Tryd.func4
    (witness_row_at (enc := enc) (C := Tryd.checked) false (laidWorld os) #[Value.slice none 0 0] rfl (by kernel_rfl) (by kernel_rfl) (by kernel_rfl)
      (OpenSpec.preRow_of_cond 8 hx (by kernel_rfl) (fun k hk => by cases hk) (by kernel_rfl) (laid_met os))) ?_
  intro W base args ds gs before hval hW _ _ hreach hL _ _
  exact contract H enc W base args ds gs before hval hW hL hreach

theorem said : Rows.ParamFormatsSaid :=
  OpenClaim.holds_of_cond 4 Tryd.f4 rfl rfl rfl rfl rfl rfl rfl ⟨rfl, rfl, rfl, rfl, rfl⟩ rfl rfl rfl rfl rfl (by kernel_rfl) Tryd.func4 (by kernel_rfl)
    (of_decide_eq_true (by kernel_rfl)) (by unfold Func.isWrapper; first | (rw [if_pos (by decide +kernel)]; kernel_rfl) | (rw [if_neg (by decide +kernel)]; exact ⟨rfl, rfl⟩))
    (fun os started H enc _ F => by rw [OpenClaim.pre_eq_preRow]; exact lifted os started H enc F)

theorem plain (f : FuncId) (fn : Func) (hf : Tryd.pinned.checked.prog.funcNamed "phosphor/phosphorlaw04.ParamFormats" = some f) (hfn : Tryd.pinned.checked.prog.funcs[f]? = some fn) :
    false = Tryd.pinned.checked.prog.looks [] ∧ ∀ (j : Nat) t, fn.params[j]? = some t → Tryd.pinned.checked.prog.wantsStandIn t = false := by
  obtain rfl : f = 4 := Option.some.inj ((show Tryd.prog.funcNamed "phosphor/phosphorlaw04.ParamFormats" = some 4 by kernel_rfl).symm.trans hf) |>.symm
  obtain rfl : fn = Tryd.f4 := (Option.some.inj (Tryd.func4.symm.trans hfn)).symm
  refine ⟨by kernel_rfl, fun j t ht => ?_⟩
  rw [Tryd.params4] at ht
  have hm : t ∈ [23] := by simpa using Array.mem_of_getElem? ht
  have hall : ([23].all fun u => !Tryd.prog.wantsStandIn u) = true := by kernel_rfl
  exact (show Tryd.prog.wantsStandIn t = false by simpa using List.all_eq_true.1 hall t hm)

/-- The card. -/
theorem card : Rows.ParamFormatsCardSaid :=
  Claim7.holds_tied_plain_at .later [] _ _ _ _ said (fun _ h => by cases h) (by kernel_rfl) (fun _ h => by cases h) paramFormats_row_tie rfl ⟨rfl, rfl⟩ (by kernel_rfl) rfl plain (by kernel_rfl)
#print axioms card
end Go.Proofs.YtigifjbgjcnlaaaDoor.paramFormats

/-
  CellPacks holds, whatever the input: the card of the statement, with the table of parts tied to the program's text.
-/
import Derived.Test.YtgndjonalhdhkaaDoorCards
import Derived.Test.YtgndjonalhdhkaaDoorTie
import Derived.Test.YtgndjonalhdhkaaDoorFrame
import Derived.Test.YtgndjonalhdhkaaDoorFrameB
import Derived.Test.YtgndjonalhdhkaaDoorFrameC
import Derived.Test.YtgndjonalhdhkaaDoorPackN
import Derived.Test.YtgndjonalhdhkaaDoorCellE
import Derived.Test.YtgndjonalhdhkaaDoorCellF
import Derived.Test.YtgndjonalhdhkaaDoorMixE
import Derived.Test.YtgndjonalhdhkaaDoorKit3
namespace Go.Proofs.YtgndjonalhdhkaaDoor.cellPacks
open Go.ChangeShapes Go.WideShapes Go.ChangeAt Go.RowKit
open Go.ChangeMaps (open_string)

set_option maxRecDepth 100000 in
set_option maxHeartbeats 16000000 in
theorem walk (A : Option Addr) (c : Nat) (l : List Cl) (hl : l.length ≤ maxLen) (hc : l.length ≤ c) (ok : OkCells l) (B : Option Addr) (d : Nat) (b : List Int) (hlb : b.length ≤ maxLen) (hd : b.length ≤ d) (okb : OkBs b) (w : World) (ht : Tab w) (hr : RCells w A l) (hrb : RBs w B b) :
    Calls Tryd.prog 3 #[.slice A l.length c, .slice B b.length d] w fun e w' => e = .returned (.bool true) ∧ Below w.heap.size w w' := by
  have HLb := Lib.hid hlb
  have HCut := Lib.hid (fun W => cut_any A c l hl hc 2000 (by omega) W)
  have hok : OkCells (l.take 2000) := fun y hy => ok y (List.mem_of_mem_take hy)
  have hm : (l.take 2000).length ≤ 2000 := by rw [List.length_take]; omega
  have HR := Lib.hid (hr.take 2000); have HT := Lib.hid ht
  clear hr ok ht hl hc
  generalize l.length = n0 at *
  generalize l.take 2000 = L at *
  clear l
  have HEn := Lib.hid (fun P d W h => encode_any P d L (by omega) hok W h)
  have HRe := Lib.hid (fun P d W h => refEncode_any P d L (by omega) hok W h)
  have HSa := Lib.hid (fun P Q d d' W h1 h2 => (by
    have := sameCells_any P Q d d' L L (by unfold maxLen; omega) (by unfold maxLen; omega) W h1 h2
    rw [decide_eq_true rfl] at this
    exact this : Calls Tryd.prog 10 #[.slice P L.length d, .slice Q L.length d'] W fun e w' => e = .returned (.bool true) ∧ Below W.heap.size W w'))
  have hel : (encL (runsL L)).length ≤ 7 * L.length := by rw [encL_len]; have := (runsL_ok L hok).2.2; omega
  obtain ⟨rs, hrs, hfl⟩ := decR_row z0 rfl L hok
  have HDe : Hid (∀ P d W, (encL (runsL L)).length ≤ d → RBs W P (encL (runsL L)) → Calls Tryd.prog 9 #[.slice P (encL (runsL L)).length d] W fun e w' => ∃ P2 d2, e = .returned (.tuple #[.slice P2 L.length d2, .int .i64 0]) ∧ OCells w' W.heap.size (.slice P2 L.length d2) L ∧ Below W.heap.size W w') := Lib.hid (fun P d W hd h => by
    refine (decode_any P d (encL (runsL L)) (by omega) hd (encL_okN L hok) W h).mono fun e w' ⟨hD, hb⟩ => ?_
    rcases hD with ⟨h0, _⟩ | ⟨rs', v, h0, he, ho⟩
    · rw [hrs] at h0; cases h0
    · rw [hrs] at h0
      obtain rfl := Option.some.inj h0
      rw [hfl] at ho
      obtain ⟨P2, d2, rfl, _⟩ := OCells.form ho
      exact ⟨P2, d2, he, ho, hb⟩)
  have HEl := Lib.hid hel
  clear hrs hfl hel hok rs
  generalize encL (runsL L) = bs at *
  go_enter Tryd.func3, Tryd.ntmps3
  go_wp2_with fail
  refine (awake2_any _ HT.out).mono ?_
  rintro e w1 ⟨rfl, hb1⟩
  have HB1 := Lib.hid hb1
  clear hb1
  go_wp2_with fail
  refine (HCut.out _).mono ?_
  rintro e w2 ⟨rfl, hb2⟩
  have HB2 := Lib.hid (HB1.out.trans (hb2.mono HB1.out.size))
  clear hb2 HB1 HCut
  go_upto_if 18 with fail
  go_cut [1] (fun u wx => u = .slice B (b.take 700).length d ∧ w2 = wx)
  case first =>
    by_cases h7 : 700 < b.length
    · have hlen : (b.take 700).length = 700 := by rw [List.length_take]; omega
      have hgt : decide (700 < (b.length : Int)) = true := by simp; omega
      have HLn := Lib.hid hlen
      clear hlen
      go_wp2_with fail
      go_meet
      exact ⟨by rw [HLn.out], rfl⟩
    · have hlen : b.take 700 = b := List.take_of_length_le (by omega)
      have hgt : decide (700 < (b.length : Int)) = false := by simp; omega
      have HLn := Lib.hid hlen
      clear hlen
      go_wp2_with fail
      go_meet
      exact ⟨by rw [HLn.out], rfl⟩
  case rest =>
  obtain ⟨rfl, rfl⟩ := hcut
  have hn7 : (b.take 700).length ≤ 700 := by rw [List.length_take]; omega
  have HRb := Lib.hid (hrb.take 700)
  have hok7 : OkBs (b.take 700) := fun y hy => okb y (List.mem_of_mem_take hy)
  have hd7 : (b.take 700).length ≤ d := by rw [List.length_take]; omega
  clear hrb okb hd hlb HLb
  generalize b.take 700 = bb at *
  clear b
  have HOk7 := Lib.hid hok7
  clear hok7
  go_wp2_with fail
  refine (HEn.out _ _ _ (HR.out.next HB2.out)).mono ?_
  rintro e w3 ⟨v1, rfl, ho1, hb3⟩
  obtain ⟨A1, c1, rfl, hc1⟩ := OBs.formN ho1
  have HO1 := Lib.hid ho1; have HB3 := Lib.hid (HB2.out.trans (hb3.mono HB2.out.size))
  clear ho1 hb3 HB2
  go_wp2_with fail
  refine (HRe.out _ _ _ (HR.out.next HB3.out)).mono ?_
  rintro e w4 ⟨v2, rfl, ho2, hb4⟩
  obtain ⟨A2, c2, rfl, hc2⟩ := OBs.formN ho2
  have HO14 := Lib.hid (HO1.out.next hb4)
  have hx1 := conv_bs (OBs.readsN HO14.out) c1
  have hx2 := conv_bs (OBs.readsN ho2) c2
  have HB4 := Lib.hid (HB3.out.trans (hb4.mono HB3.out.size))
  clear ho2 hb4 HB3 HO1
  go_wp2_with fail
  refine (HDe.out _ _ _ hc1 (OBs.readsN HO14.out)).mono ?_
  rintro e w5 ⟨P5, d5, rfl, ho5, hb5⟩
  have HO5 := Lib.hid ho5; have HB5 := Lib.hid (HB4.out.trans (hb5.mono HB4.out.size))
  clear ho5 hb5 hx1 hx2
  go_wp2_with fail
  refine (HSa.out _ _ _ _ _ (OCells.reads HO5.out) (HR.out.next HB5.out)).mono ?_
  rintro e w6 ⟨rfl, hb6⟩
  have HB6 := Lib.hid (HB5.out.trans (hb6.mono HB5.out.size))
  clear hb6 HO5 HB5 HO14 HB4
  have HD1 : Hid (∀ P q W, bb.length ≤ q → RBs W P bb → Calls Tryd.prog 9 #[.slice P bb.length q] W fun e w' => DecOut (decR z0 bb) W w' e ∧ Below W.heap.size W w') := Lib.hid (fun P q W h1 h2 => decode_any P q bb (by omega) h1 HOk7.out W h2)
  have HD2 : Hid (∀ P q W, RBs W P bb → Calls Tryd.prog 11 #[.slice P bb.length q] W fun e w' => DecOut (decR z0 bb) W w' e ∧ Below W.heap.size W w') := Lib.hid (fun P q W h2 => refDecode_any P q bb (by omega) HOk7.out W h2)
  obtain ⟨i0, hi0, hz0, hz1, hz2⟩ := info_parts info_byte
  have HI := Lib.hid hi0; have HZ0 := Lib.hid hz0; have HZ1 := Lib.hid hz1; have HZ2 := Lib.hid hz2
  have HO := Lib.hid (World.ownsRow_lit (e := 5) (size := 1) w6 #[] 0 (Nat.le_refl _) (Nat.zero_le _) rfl)
  have HRd := Lib.hid ((HRb.out.next HB6.out).next ((Below.refl w6.heap.size w6).alloc (Nat.le_refl _) (.cells #[] 5)))
  have HOne : Hid (∀ u ∈ bb.map (Value.int .u8), u.oneCell' = true) := Lib.hid (fun u hu => by obtain ⟨n, _, rfl⟩ := List.mem_map.1 hu; rfl)
  clear hi0 hz0 hz1 hz2 HDe HSa HEn HRe HEl HR
  go_wp2_with (at_builtin; refine wpList_append_any _ rfl _ _ 23 rfl w6.heap.size 5 i0 _ 1 1 Tryd.underlying23 HI.out HZ0.out HZ1.out HZ2.out rfl (by decide) _ _ _ rfl HO.out _ B bb.length d _ rfl HRd.out HOne.out (by unfold maxLen; omega) (by omega) (by simp) ?_; intro v7 w7 hown7 hg7 hat7)
  have hb7 : Below w6.heap.size (w6.alloc (.cells #[] 5)) w7 := (Below.refl _ _).grown hg7 (by simp) (fun k hk => Nat.le_of_eq (Option.some.inj hk))
  have ho7 : OBs w7 w6.heap.size v7 bb := by simpa [OBs] using hown7
  obtain ⟨A7, c7, rfl, hc7⟩ := OBs.formN ho7
  have HO7 := Lib.hid ho7
  have HB7 := Lib.hid (HB6.out.trans ((((Below.refl w6.heap.size w6).alloc (Nat.le_refl _) _).trans hb7).mono HB6.out.size))
  clear ho7 hb7 hown7 hg7 hat7 HO HRd HOne HI HZ0 HZ1 HZ2 HB6
  cases hq : decR z0 bb with
  | none =>
    rw [hq] at HD1 HD2
    have HS0 : Hid (∀ W, Calls Tryd.prog 10 #[.slice none 0 0, .slice none 0 0] W fun e w' => e = .returned (.bool true) ∧ Below W.heap.size W w') := Lib.hid (fun W => by
      have hn : RCells W none [] := ⟨rfl, fun h => absurd h (by simp)⟩
      have := sameCells_any none none 0 0 [] [] (by simp) (by simp) W hn hn
      rw [decide_eq_true rfl] at this
      exact this)
    clear hq
    go_wp2_with fail
    refine (HD1.out _ _ _ hc7 (OBs.readsN HO7.out)).mono ?_
    rintro e w8 ⟨hD, hb8⟩
    obtain rfl : e = .returned (.tuple #[.slice none 0 0, .int .i64 3]) := by
      rcases hD with ⟨_, h⟩ | ⟨_, _, h0, _⟩
      · exact h
      · cases h0
    have HB8 := Lib.hid (HB7.out.trans (hb8.mono HB7.out.size))
    clear hD hb8 HB7 HO7
    go_wp2_with fail
    refine (HD2.out _ _ _ (HRb.out.next HB8.out)).mono ?_
    rintro e w9 ⟨hD, hb9⟩
    obtain rfl : e = .returned (.tuple #[.slice none 0 0, .int .i64 3]) := by
      rcases hD with ⟨_, h⟩ | ⟨_, _, h0, _⟩
      · exact h
      · cases h0
    have HB9 := Lib.hid (HB8.out.trans (hb9.mono HB8.out.size))
    clear hD hb9 HB8
    go_upto_region 15 with fail
    refine wp_region_mix_lit (by kernel_rfl) [(6, .call (.bool true))] (by kernel_rfl) (by kernel_rfl) (by kernel_rfl) (by rfl) (by simp [apartK] <;> omega) (by simp [startK]) (by simp [stabK]) (⟨fun _ => undef, by simp [okK]⟩) (fun β hβ => ?_)
    repeat (
      refine lex_val (v := ?_) rfl rfl (fun w' hf => ?_) ?_
      rotate_left
      · go_simp
        try rfl
      try simp only [Act.put, List.setIfInBounds_toArray, List.set_cons_zero, List.set_cons_succ])
    refine lex_call (f := 10) (args := ?_) rfl rfl (fun w' hf => ?_) (fun w' hf => ?_) ?_
    rotate_left
    · go_simp
      try rfl
    · exact HS0.out w'
    try simp only [Act.put, List.setIfInBounds_toArray, List.set_cons_zero, List.set_cons_succ]
    repeat (
      refine lex_val (v := ?_) rfl rfl (fun w' hf => ?_) ?_
      rotate_left
      · go_simp
        try rfl
      try simp only [Act.put, List.setIfInBounds_toArray, List.set_cons_zero, List.set_cons_succ])
    repeat (
      refine lex_skip rfl rfl ?_
      try simp only [Act.put, List.setIfInBounds_toArray, List.set_cons_zero, List.set_cons_succ])
    repeat (
      refine lex_val (v := ?_) rfl rfl (fun w' hf => ?_) ?_
      rotate_left
      · go_simp
        try rfl
      try simp only [Act.put, List.setIfInBounds_toArray, List.set_cons_zero, List.set_cons_succ])
    refine lex_nil ?_
    intro wE he
    have hbE := HB9.out.trans (he.only.below0.mono HB9.out.size)
    clear he
    go_wp2_with fail
    go_ret
    exact ⟨rfl, hbE⟩
  | some rs =>
    obtain ⟨hk1, hk2, hk3⟩ := back_facts bb rs hn7 HOk7.out hq
    rw [hq] at HD1 HD2
    have HSk : Hid (∀ P Q p q W, RCells W P (flatR rs) → RCells W Q (flatR rs) → Calls Tryd.prog 10 #[.slice P (flatR rs).length p, .slice Q (flatR rs).length q] W fun e w' => e = .returned (.bool true) ∧ Below W.heap.size W w') := Lib.hid (fun P Q p q W h1 h2 => by
      have := sameCells_any P Q p q (flatR rs) (flatR rs) (by unfold maxLen; omega) (by unfold maxLen; omega) W h1 h2
      rw [decide_eq_true rfl] at this
      exact this)
    have HEk : Hid (∀ P p W, RCells W P (flatR rs) → Calls Tryd.prog 7 #[.slice P (flatR rs).length p] W fun e w' => ∃ v, e = .returned v ∧ OBs w' W.heap.size v bb ∧ Below W.heap.size W w') := Lib.hid (fun P p W h => by
      have := encode_any P p (flatR rs) hk3 hk2 W h
      rw [hk1] at this
      exact this)
    have HD1' : Hid (∀ P q W, bb.length ≤ q → RBs W P bb → Calls Tryd.prog 9 #[.slice P bb.length q] W fun e w' => ∃ P2 d2, e = .returned (.tuple #[.slice P2 (flatR rs).length d2, .int .i64 0]) ∧ OCells w' W.heap.size (.slice P2 (flatR rs).length d2) (flatR rs) ∧ Below W.heap.size W w') := Lib.hid (fun P q W h1 h2 => by
      refine (HD1.out P q W h1 h2).mono fun e w' ⟨hD, hb⟩ => ?_
      rcases hD with ⟨h0, _⟩ | ⟨rs', v, h0, he, ho⟩
      · cases h0
      · obtain rfl := Option.some.inj h0
        obtain ⟨P2, d2, rfl, _⟩ := OCells.form ho
        exact ⟨P2, d2, he, ho, hb⟩)
    have HD2' : Hid (∀ P q W, RBs W P bb → Calls Tryd.prog 11 #[.slice P bb.length q] W fun e w' => ∃ P2 d2, e = .returned (.tuple #[.slice P2 (flatR rs).length d2, .int .i64 0]) ∧ OCells w' W.heap.size (.slice P2 (flatR rs).length d2) (flatR rs) ∧ Below W.heap.size W w') := Lib.hid (fun P q W h2 => by
      refine (HD2.out P q W h2).mono fun e w' ⟨hD, hb⟩ => ?_
      rcases hD with ⟨h0, _⟩ | ⟨rs', v, h0, he, ho⟩
      · cases h0
      · obtain rfl := Option.some.inj h0
        obtain ⟨P2, d2, rfl, _⟩ := OCells.form ho
        exact ⟨P2, d2, he, ho, hb⟩)
    clear hq hk1 hk2 hk3 HD1 HD2
    generalize flatR rs = K at *
    go_wp2_with fail
    refine (HD1'.out _ _ _ hc7 (OBs.readsN HO7.out)).mono ?_
    rintro e w8 ⟨P8, d8, rfl, ho8, hb8⟩
    have HB8 := Lib.hid (HB7.out.trans (hb8.mono HB7.out.size)); have HO8 := Lib.hid ho8
    clear ho8 hb8 HB7 HO7
    go_wp2_with fail
    refine (HD2'.out _ _ _ (HRb.out.next HB8.out)).mono ?_
    rintro e w9 ⟨P9, d9, rfl, ho9, hb9⟩
    have HB9 := Lib.hid (HB8.out.trans (hb9.mono HB8.out.size)); have HO9 := Lib.hid ho9; have HO89 := Lib.hid (HO8.out.next hb9)
    clear ho9 hb9 HB8 HO8
    have HRx := Lib.hid (OCells.reads HO89.out); have HRy := Lib.hid (OCells.reads HO9.out); have HRc := Lib.hid (HRb.out.next HB9.out)
    go_upto_region 15 with fail
    refine wp_region_mix_lit (by kernel_rfl) [(6, .call (.bool true)), (13, .letter (BsP bb.length) (BsF w9.heap.size bb))] (by kernel_rfl) (by kernel_rfl) (by kernel_rfl) (by rfl) (by simp [apartK] <;> omega) (by simp [startK]) (by repeat (first | (refine List.forall_mem_cons.2 ⟨?_, ?_⟩; (first | exact trivial | exact bsF_stab _ _ _ (by simp [boxes, Kind.boxed]))) | (intro x hx; cases hx; done))) (⟨fun _ => .slice none bb.length 0, by repeat (first | (refine List.forall_mem_cons.2 ⟨?_, ?_⟩; (first | exact trivial | exact ⟨none, _, rfl⟩)) | (intro x hx; cases hx; done))⟩) (fun β hβ => ?_)
    obtain ⟨AE, cE, eE⟩ := (hβ 13 : BsP bb.length (β 13))
    repeat (
      refine lex_val (v := ?_) rfl rfl (fun w' hf => ?_) ?_
      rotate_left
      · go_simp
        try rfl
      try simp only [Act.put, List.setIfInBounds_toArray, List.set_cons_zero, List.set_cons_succ])
    refine lex_call (f := 10) (args := ?_) rfl rfl (fun w' hf => ?_) (fun w' hf => ?_) ?_
    rotate_left
    · go_simp
      try rfl
    · exact HSk.out P8 P9 d8 d9 w' (HRx.out.next hf.only.below0) (HRy.out.next hf.only.below0)
    try simp only [Act.put, List.setIfInBounds_toArray, List.set_cons_zero, List.set_cons_succ]
    repeat (
      refine lex_val (v := ?_) rfl rfl (fun w' hf => ?_) ?_
      rotate_left
      · go_simp
        try rfl
      try simp only [Act.put, List.setIfInBounds_toArray, List.set_cons_zero, List.set_cons_succ])
    refine lex_letter (f := 7) (args := ?_) rfl rfl (fun w' hf => ?_) (fun w' hf => ?_) ?_
    rotate_left
    · go_simp
      try rfl
    · exact bs_own hf.only.size (HEk.out P8 d8 w' (HRx.out.next hf.only.below0))
    try simp only [Act.put, List.setIfInBounds_toArray, List.set_cons_zero, List.set_cons_succ]
    rw [eE]
    refine lex_val (v := ?_) rfl rfl (fun w' hf => ?_) ?_
    rotate_left
    · have hg := conv_bs (BsF.reads (A := AE) (c := cE) rfl (by have := hf.got 13 _ _ rfl (by kernel_rfl); rw [eE] at this; exact this)) cE; go_simp
      try rfl
    try simp only [Act.put, List.setIfInBounds_toArray, List.set_cons_zero, List.set_cons_succ]
    repeat (
      refine lex_val (v := ?_) rfl rfl (fun w' hf => ?_) ?_
      rotate_left
      · have hg2 := conv_bs (HRc.out.next hf.only.below0) d; go_simp
        try rfl
      try simp only [Act.put, List.setIfInBounds_toArray, List.set_cons_zero, List.set_cons_succ])
    refine lex_nil ?_
    intro wE he
    have hbE := HB9.out.trans (he.only.below0.mono HB9.out.size)
    clear he
    go_wp2_with fail
    go_ret
    exact ⟨rfl, hbE⟩

set_option maxRecDepth 100000 in
/-- What the walk gives, for every argument and every world that holds the table. -/
theorem contract (H : Type) (enc : TypeId × Value → H) (W : World) (base : Nat) (args : Array Value) (ds gs : List (DataW H)) (before : List MemPlace)
    (hval : ∀ (j : Nat) t v, Tryd.f3.params[j]? = some t → args[j]? = some v → Value.okWide Tryd.prog W .any base t v)
    (hW : DataW.Whole enc Tryd.prog Tryd.f3.params.toList Rows.cellPacksSpec.vars false W args.toList ds gs before) (hL : laidMetH Tryd.prog Rows.cellPacksRow.laid W)
    (hreach : (DataW.weightsEach Tryd.prog (Tryd.f3.params.toList ++ []) (ds ++ gs)).all (· ≤ reachBytes) = true) :
    Calls Tryd.prog 3 args W fun e W' => ∃ v, e = .returned v ∧ Rows.cellPacksSpec.post enc Tryd.prog Tryd.f3 false true false false W args v W' := by
  have hW' := hW
  have ht := tab_of hL
  have hlts : ∀ x ∈ before, x.block < W.heap.size := fun x hx => hW'.lt x hx
  obtain ⟨p, q, hA0, hV, rfl, hfz, hnd⟩ := hW
  have hA : DataW.TrodAll enc Tryd.prog W 0 (fun _ => true) true Tryd.f3.params.toList args.toList ds p := hA0
  rw [Tryd.params3] at hA hval hreach
  obtain ⟨v0, vs0, d0, ds0, pp0, qq0, hargs, rfl, rfl, h0, rr0⟩ := trodAll_cons hA
  obtain ⟨v1, vs1, d1, ds1, pp1, qq1, rfl, rfl, rfl, h1, rr1⟩ := trodAll_cons rr0
  obtain ⟨rfl, rfl, rfl⟩ := trodAll_nil rr1
  obtain rfl : args = #[v0, v1] := by cases args; simp_all
  obtain ⟨rfl, rfl⟩ := trodVars_none hV
  obtain ⟨b0, len0, cap0, rfl⟩ := okWide_slice Tryd.underlying22 (hval 0 22 v0 rfl rfl)
  obtain ⟨l0, hlen0, hm0, hc0, ok0, hri0⟩ := cells_in h0
  subst hlen0
  obtain ⟨b1, len1, cap1, rfl⟩ := okWide_slice Tryd.underlying23 (hval 1 23 v1 rfl rfl)
  obtain ⟨l1, hlen1, hm1, hc1, ok1, hri1⟩ := bytes_in h1
  subst hlen1
  clear hA0
  refine (walk b0 cap0 l0 hm0 hc0 ok0 b1 cap1 l1 hm1 hc1 ok1 W ht hri0 hri1).mono fun e W' ⟨he, hb⟩ => ?_
  subst he
  exact ⟨_, rfl, post_law laidOut (by kernel_rfl) (by kernel_rfl) rfl hW' rfl hb⟩

set_option maxRecDepth 100000 in
theorem laid_met (os : Os) : laidMet Tryd.prog Rows.cellPacksRow.laid ((laidWorld os).forCall (fun _ _ => 0) ⟨#[], #[Value.slice none 0 0, Value.slice none 0 0], []⟩).memory :=
  laidMet_of_run' 8 (by kernel_rfl) (by kernel_rfl)
set_option maxRecDepth 100000 in
theorem reads (os : Os) {H : Type} (enc : TypeId × Value → H) : ∃ places, DataW.whole enc Tryd.prog ((laidWorld os).forCall (fun _ _ => 0) ⟨#[], #[Value.slice none 0 0, Value.slice none 0 0], []⟩).memory Tryd.f3.params.toList Rows.cellPacksSpec.vars false (#[Value.slice none 0 0, Value.slice none 0 0] : Array Value).toList 8 = some ([.nil, .nil], [], places) :=
  ⟨[], by kernel_rfl⟩

set_option maxRecDepth 100000 in
theorem lifted (os : Os) (started : os.Started) (H : Type) (enc : TypeId × Value → H) (F : Stop.Interp) :
    ReturnsInHanded {} Tryd.checked os 3 .any ((OpenSpec.ofChange Rows.cellPacksSpec).preRow enc Tryd.prog Tryd.f3 Rows.cellPacksRow.domain false Rows.cellPacksRow.laid) (((OpenSpec.ofChange Rows.cellPacksSpec).at F).post enc Tryd.prog Tryd.f3 false true false false) := by
  obtain ⟨places, hx⟩ := reads os enc
  refine returnsInHanded_of_row (C := Tryd.checked) (s := OpenSpec.ofChange Rows.cellPacksSpec) own started (by kernel_rfl) Tryd.func3
    (witness_row_at (enc := enc) (C := Tryd.checked) false (laidWorld os) #[Value.slice none 0 0, Value.slice none 0 0] rfl (by kernel_rfl) (by kernel_rfl) (by kernel_rfl)
      (OpenSpec.preRow_of_cond 8 hx (by kernel_rfl) (fun k hk => by cases hk) (by kernel_rfl) (laid_met os))) ?_
  intro W base args ds gs before hval hW _ _ hreach hL _ _
  exact contract H enc W base args ds gs before hval hW hL hreach

theorem said : Rows.CellPacksSaid :=
  OpenClaim.holds_of_cond 3 Tryd.f3 rfl rfl rfl rfl rfl rfl rfl ⟨rfl, rfl, rfl, rfl, rfl⟩ rfl rfl rfl rfl rfl (by kernel_rfl) Tryd.func3 (by kernel_rfl)
    (of_decide_eq_true (by kernel_rfl)) (by unfold Func.isWrapper; first | (rw [if_pos (by decide +kernel)]; kernel_rfl) | (rw [if_neg (by decide +kernel)]; exact ⟨rfl, rfl⟩))
    (fun os started H enc _ F => by rw [OpenClaim.pre_eq_preRow]; exact lifted os started H enc F)

theorem plain (f : FuncId) (fn : Func) (hf : Tryd.pinned.checked.prog.funcNamed "phosphor/phosphorlaw02.CellPacks" = some f) (hfn : Tryd.pinned.checked.prog.funcs[f]? = some fn) :
    false = Tryd.pinned.checked.prog.looks [] ∧ ∀ (j : Nat) t, fn.params[j]? = some t → Tryd.pinned.checked.prog.wantsStandIn t = false := by
  obtain rfl : f = 3 := Option.some.inj ((show Tryd.prog.funcNamed "phosphor/phosphorlaw02.CellPacks" = some 3 by kernel_rfl).symm.trans hf) |>.symm
  obtain rfl : fn = Tryd.f3 := (Option.some.inj (Tryd.func3.symm.trans hfn)).symm
  refine ⟨by kernel_rfl, fun j t ht => ?_⟩
  rw [Tryd.params3] at ht
  have hm : t ∈ [22, 23] := by simpa using Array.mem_of_getElem? ht
  have hall : ([22, 23].all fun u => !Tryd.prog.wantsStandIn u) = true := by kernel_rfl
  exact (show Tryd.prog.wantsStandIn t = false by simpa using List.all_eq_true.1 hall t hm)

/-- The card. -/
theorem card : Rows.CellPacksCardSaid :=
  Claim7.holds_tied_plain_at .later [] _ _ _ _ said (fun _ h => by cases h) (by kernel_rfl) (fun _ h => by cases h) cellPacks_row_tie rfl ⟨rfl, rfl⟩ (by kernel_rfl) rfl plain (by kernel_rfl)
#print axioms card
end Go.Proofs.YtgndjonalhdhkaaDoor.cellPacks

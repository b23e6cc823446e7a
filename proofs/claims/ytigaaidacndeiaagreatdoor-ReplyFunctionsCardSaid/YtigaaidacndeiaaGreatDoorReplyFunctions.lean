/-
  ReplyFunctions holds, whatever the input: the card of the statement, with the library's three tables tied to the program's text.
-/
import Derived.Test.YtigaaidacndeiaaGreatDoorCards
import Derived.Test.YtigaaidacndeiaaGreatDoorTie
import Derived.Test.YtigaaidacndeiaaGreatDoorFrameP
import Derived.Test.YtigaaidacndeiaaGreatDoorFrameE
import Derived.Test.YtigaaidacndeiaaGreatDoorRplB
namespace Go.Proofs.YtigaaidacndeiaaGreatDoor.replyFunctions
open Go.ChangeShapes Go.WideShapes Go.ChangeAt Go.RowKit
open Go.ChangeMaps (open_string)

theorem own_emp (w : World) : (w.alloc (.cells #[] 5)).ownsRow w.heap.size 5 1 (.slice (some ⟨w.heap.size, 0, none⟩) 0 0) 0 [] :=
  ⟨rfl, .inr ⟨w.heap.size, 0, #[], rfl, Nat.le_refl _, Blk.new w _ _, Nat.le_refl _, by decide, rfl, rfl⟩⟩
set_option maxRecDepth 100000 in
set_option maxHeartbeats 16000000 in
theorem walk (eight : Bool) (id0 : ByteArray) (_hid : id0.size ≤ maxLen) (A : Option Addr) (cap : Nat) (ns : List Int) (hm : ns.length ≤ 17592186043904) (hcap : ns.length ≤ cap) (w : World) (ht : Ten w) (hri : RInts w A ns) :
    Calls Tryz.prog 3 #[.bool eight, .string id0, .slice A ns.length cap] w fun e w' => e = .returned (.bool true) ∧ Below w.heap.size w w' := by
  have HAw := Lib.hid (repAwake_any w ht)
  have HT := Lib.hid ht; have HR := Lib.hid hri
  have HFw := Lib.hid (fun W h => fewR_any A cap ns hm hcap W h)
  have HLl : Hid ((ns.take 40).length ≤ 40) := Lib.hid (by simp; omega)
  obtain ⟨i1, hj0, hj1, hj2, hj3⟩ := info_u8
  have HJ := Lib.hid (And.intro hj0 (And.intro hj1 (And.intro hj2 hj3)))
  clear hj0 hj1 hj2 hj3 ht hri hm hcap
  generalize ns.take 40 = L at *
  go_enter Tryz.func3, Tryz.ntmps3
  go_wp2_with fail
  refine HAw.out.mono ?_
  rintro e w1 ⟨rfl, hb⟩
  have HB1 := Lib.hid hb
  have HT1 := Lib.hid (HT.out.next hb)
  have HR1 := Lib.hid (HR.out.next hb)
  clear hb HAw HT HR
  have HF1 := Lib.hid (HFw.out w1 HR1.out)
  by_cases hx : 20 < id0.size
  case' pos =>
    have e1 : ((20 : Int) < (id0.size : Int)) = True := eq_true (by omega)
    have e2 : ((20 : Int) ≤ (id0.size : Int)) = True := eq_true (by omega)
    --#a
    go_upto_region 5 with fail
    have hl2 : (id0.extract 0 20).size ≤ 20 := by rw [ByteArray.size_extract]; omega
    clear e1 e2 hx _hid
    generalize id0.extract 0 20 = id at *
  case' neg =>
    have e1 : ((20 : Int) < (id0.size : Int)) = False := eq_false (by omega)
    go_upto_region 5 with fail
    have hl2 : id0.size ≤ 20 := by omega
    clear e1 hx _hid
    generalize id0 = id at *
  all_goals
    --#0
    have HIz := Lib.hid hl2
    have HRb := Lib.hid (rep_both id L eight)
    have HL4 := Lib.hid (rep_len 4 id ⟨#[]⟩ L eight); have HL5 := Lib.hid (rep_len 5 id ⟨#[97, 98]⟩ L eight)
    have HN4 := Lib.hid (rep_lt 4 id ⟨#[]⟩ L eight); have HN5 := Lib.hid (rep_lt 5 id ⟨#[97, 98]⟩ L eight)
    have HC1 := Lib.hid (fun A' c' W h1 h2 h3 => csi_any eight id A' c' L (by have := HLl.out; unfold maxLen; omega) h1 (by unfold maxLen; omega) W h2 h3)
    have HC2 := Lib.hid (fun A' c' W h1 h2 h3 => dcs_any eight id ⟨#[97, 98]⟩ A' c' L (by have := HLl.out; unfold maxLen; omega) h1 (by unfold maxLen; omega) (by decide) W h2 h3)
    have HC3 := Lib.hid (fun A' c' W h => refCsi_any eight id A' c' L (by have := HLl.out; unfold maxLen; omega) (by unfold maxLen; omega) W h)
    have HC4 := Lib.hid (fun A' c' W h => refDcs_any eight id ⟨#[97, 98]⟩ A' c' L (by have := HLl.out; unfold maxLen; omega) (by unfold maxLen; omega) (by decide) W h)
    have HSm : Hid (∀ A' B' c' d' W, RInts W A' L → RInts W B' L → Calls Tryz.prog 12 #[.slice A' L.length c', .slice B' L.length d'] W fun e w' => e = .returned (.bool true) ∧ Below W.heap.size W w') := Lib.hid (fun A' B' c' d' W h1 h2 => by
      have q := sameInts_any A' B' c' d' L L (by have := HLl.out; unfold maxLen; omega) (by have := HLl.out; unfold maxLen; omega) W h1 h2
      rw [show (L == L) = true by simp] at q
      exact q)
    have HNo := Lib.hid HRb.out.no; have HYes := Lib.hid HRb.out.yes
    have HNl := Lib.hid (nums_len L)
    clear hl2 HRb
    generalize repL 4 id ⟨#[]⟩ L eight = l4 at *
    generalize repL 5 id ⟨#[97, 98]⟩ L eight = l5 at *
    --#1
    go_wp2_with fail
    refine HF1.out.mono ?_
    rintro e w2 ⟨⟨A2, c2, rfl, ho2, hc2⟩, hb2⟩
    have HB2 := Lib.hid (HB1.out.trans (hb2.mono HB1.out.size))
    have HI2 := Lib.hid (OInts.reads ho2)
    have HT2 := Lib.hid (HT1.out.next hb2); have HR2 := Lib.hid (HR1.out.next hb2)
    have HD1 := Lib.hid (HC1.out A2 c2 w2 hc2 HT2.out HI2.out)
    have HC2b := Lib.hid (fun W h2 h3 => HC2.out A2 c2 W hc2 h2 h3)
    clear ho2 hb2 hc2 HF1 HC1 HC2 HB1 HT1 HR1
    --#2
    go_wp2_with fail
    refine HD1.out.mono ?_
    rintro e w3 ⟨⟨v3, rfl, ho3⟩, hb3⟩
    obtain ⟨A3, c3, rfl⟩ := ho3.form
    have HK3 := Lib.hid hb3
    have HY3 := Lib.hid (OByt.reads ho3)
    have HD2 := Lib.hid (HC2b.out w3 (HT2.out.next hb3) (HI2.out.next hb3))
    clear ho3 hb3 HD1 HC2b
    --#3
    go_wp2_with fail
    refine HD2.out.mono ?_
    rintro e w4 ⟨⟨v4, rfl, ho4⟩, hb4⟩
    obtain ⟨A4, c4, rfl⟩ := ho4.form
    have HK4 := Lib.hid (HK3.out.trans (hb4.mono HK3.out.size))
    have HB4 := Lib.hid (HB2.out.trans (HK4.out.mono HB2.out.size))
    have HT4 := Lib.hid (HT2.out.next HK4.out); have HR4 := Lib.hid (HR2.out.next HK4.out); have HI4 := Lib.hid (HI2.out.next HK4.out)
    have HY4 := Lib.hid (HY3.out.next hb4)
    have HZ4 := Lib.hid (OByt.reads ho4)
    have HCv := Lib.hid (fun l A' n W (h : RByt W A' l) => conv_by h n)
    clear ho4 hb4 HD2 HK3 HK4 HB2 HT2 HR2 HI2 HY3
    obtain ⟨s4, hs4⟩ : ∃ s4, s4 = bstr l4 := ⟨_, rfl⟩
    obtain ⟨s5, hs5⟩ : ∃ s5, s5 = bstr l5 := ⟨_, rfl⟩
    have HS4 := Lib.hid hs4; have HS5 := Lib.hid hs5
    clear hs4 hs5
    --#4
    go_upto_region 7 with fail
    refine wp_region_mix_lit (by kernel_rfl) [(5, .letter (IlP L.length) (IlF w4.heap.size L)), (6, .letter (BtP l4.length) (BtF w4.heap.size l4)), (15, .letter (IlP L.length) (IlF w4.heap.size L)), (16, .letter (BtP l5.length) (BtF w4.heap.size l5)), (23, .letter (IlP L.length) (IlF w4.heap.size L)), (24, .call (.bool true))] (by kernel_rfl) (by kernel_rfl) (by kernel_rfl) (by rfl) (by simp [apartK] <;> omega) (by simp [startK]) (by simp only [List.forall_mem_cons, stabK]; exact ⟨ilV_stab _ _ _ (by simp [boxes, Kind.boxed]), btV_stab _ _ _ (by simp [boxes, Kind.boxed]), ilV_stab _ _ _ (by simp [boxes, Kind.boxed]), btV_stab _ _ _ (by simp [boxes, Kind.boxed]), ilV_stab _ _ _ (by simp [boxes, Kind.boxed]), trivial, by simp⟩) (⟨fun i => if i = 6 then .slice none l4.length 0 else if i = 16 then .slice none l5.length 0 else .slice none L.length 0, by simp only [List.forall_mem_cons, okK]; exact ⟨⟨none, 0, rfl⟩, ⟨none, 0, rfl⟩, ⟨none, 0, rfl⟩, ⟨none, 0, rfl⟩, ⟨none, 0, rfl⟩, trivial, by simp⟩⟩) (fun β hβ => ?_)
    obtain ⟨A5, c5, e5⟩ := (hβ 5 : IlP L.length (β 5))
    obtain ⟨A6, c6, e6⟩ := (hβ 6 : BtP l4.length (β 6))
    obtain ⟨A15, c15, e15⟩ := (hβ 15 : IlP L.length (β 15))
    obtain ⟨A16, c16, e16⟩ := (hβ 16 : BtP l5.length (β 16))
    obtain ⟨A23, c23, e23⟩ := (hβ 23 : IlP L.length (β 23))
    --#5
    refine lex_val (v := ?_) rfl rfl (fun w' hf => ?_) ?_
    rotate_left
    · go_simp
      try rfl
    try simp only [Act.put, List.setIfInBounds_toArray, List.set_cons_zero, List.set_cons_succ]
    refine lex_val (v := ?_) rfl rfl (fun w' hf => ?_) ?_
    rotate_left
    · have q := HCv.out l4 A3 c3 w' (HY4.out.next hf.only.below0); rw [← HS4.out] at q; go_simp
      try rfl
    try simp only [Act.put, List.setIfInBounds_toArray, List.set_cons_zero, List.set_cons_succ]
    iterate 3 (
      refine lex_val (v := ?_) rfl rfl (fun w' hf => ?_) ?_
      rotate_left
      · go_simp
        try rfl
      try simp only [Act.put, List.setIfInBounds_toArray, List.set_cons_zero, List.set_cons_succ])
    --#6
    refine lex_letter (f := 7) (args := ?_) rfl rfl (fun w' hf => ?_) (fun w' hf => ?_) ?_
    rotate_left
    · go_simp
      try rfl
    · exact (HFw.out w' (HR4.out.next hf.only.below0)).mono (fun e w'' ⟨⟨A9, c9, h1, h2, _⟩, h4⟩ => ⟨_, h1, ⟨A9, c9, rfl⟩, own_base (oints_own h2) hf.only.size, h4⟩)
    try simp only [Act.put, List.setIfInBounds_toArray, List.set_cons_zero, List.set_cons_succ]
    --#7
    refine lex_letter (f := 10) (args := ?_) rfl rfl (fun w' hf => ?_) (fun w' hf => ?_) ?_
    rotate_left
    · have hg : IlF w4.heap.size L (β 5) w' := hf.got 5 _ _ rfl (by kernel_rfl); rw [e5] at hg; (try rw [e5]); go_simp
      try rfl
    · have hg : IlF w4.heap.size L (β 5) w' := hf.got 5 _ _ rfl (by kernel_rfl); rw [e5] at hg; (try rw [e5]); exact (HC3.out A5 c5 w' (OInts.reads hg)).mono (fun e w'' ⟨⟨v, h1, h2⟩, h4⟩ => ⟨_, h1, h2.form, own_base (obyt_own h2) hf.only.size, h4⟩)
    try simp only [Act.put, List.setIfInBounds_toArray, List.set_cons_zero, List.set_cons_succ]
    --#8
    refine lex_val (v := ?_) rfl rfl (fun w' hf => ?_) ?_
    rotate_left
    · have hg : BtF w4.heap.size l4 (β 6) w' := hf.got 6 _ _ rfl (by kernel_rfl); rw [e6] at hg; rw [e6]; have q := HCv.out l4 A6 c6 w' (OByt.reads hg); rw [← HS4.out] at q; go_simp
      try rfl
    try simp only [Act.put, List.setIfInBounds_toArray, List.set_cons_zero, List.set_cons_succ]
    refine lex_val (v := ?_) rfl rfl (fun w' hf => ?_) ?_
    rotate_left
    · go_simp
      try rfl
    try simp only [Act.put, List.setIfInBounds_toArray, List.set_cons_zero, List.set_cons_succ]
    refine lex_val (v := ?_) rfl rfl (fun w' hf => ?_) ?_
    rotate_left
    · go_simp
      try rfl
    try simp only [Act.put, List.setIfInBounds_toArray, List.set_cons_zero, List.set_cons_succ]
    refine lex_val (v := ?_) rfl rfl (fun w' hf => ?_) ?_
    rotate_left
    · go_simp
      try rfl
    try simp only [Act.put, List.setIfInBounds_toArray, List.set_cons_zero, List.set_cons_succ]
    refine lex_val (v := ?_) rfl rfl (fun w' hf => ?_) ?_
    rotate_left
    · have q := HCv.out l5 A4 c4 w' (HZ4.out.next hf.only.below0); rw [← HS5.out] at q; go_simp
      try rfl
    try simp only [Act.put, List.setIfInBounds_toArray, List.set_cons_zero, List.set_cons_succ]
    iterate 3 (
      refine lex_val (v := ?_) rfl rfl (fun w' hf => ?_) ?_
      rotate_left
      · go_simp
        try rfl
      try simp only [Act.put, List.setIfInBounds_toArray, List.set_cons_zero, List.set_cons_succ])
    --#9
    refine lex_letter (f := 7) (args := ?_) rfl rfl (fun w' hf => ?_) (fun w' hf => ?_) ?_
    rotate_left
    · go_simp
      try rfl
    · exact (HFw.out w' (HR4.out.next hf.only.below0)).mono (fun e w'' ⟨⟨A9, c9, h1, h2, _⟩, h4⟩ => ⟨_, h1, ⟨A9, c9, rfl⟩, own_base (oints_own h2) hf.only.size, h4⟩)
    try simp only [Act.put, List.setIfInBounds_toArray, List.set_cons_zero, List.set_cons_succ]
    refine lex_letter (f := 11) (args := ?_) rfl rfl (fun w' hf => ?_) (fun w' hf => ?_) ?_
    rotate_left
    · have hg : IlF w4.heap.size L (β 15) w' := hf.got 15 _ _ rfl (by kernel_rfl); rw [e15] at hg; (try rw [e15]); go_simp
      try rfl
    · have hg : IlF w4.heap.size L (β 15) w' := hf.got 15 _ _ rfl (by kernel_rfl); rw [e15] at hg; (try rw [e15]); exact (HC4.out A15 c15 w' (OInts.reads hg)).mono (fun e w'' ⟨⟨v, h1, h2⟩, h4⟩ => ⟨_, h1, h2.form, own_base (obyt_own h2) hf.only.size, h4⟩)
    try simp only [Act.put, List.setIfInBounds_toArray, List.set_cons_zero, List.set_cons_succ]
    refine lex_val (v := ?_) rfl rfl (fun w' hf => ?_) ?_
    rotate_left
    · have hg : BtF w4.heap.size l5 (β 16) w' := hf.got 16 _ _ rfl (by kernel_rfl); rw [e16] at hg; rw [e16]; have q := HCv.out l5 A16 c16 w' (OByt.reads hg); rw [← HS5.out] at q; go_simp
      try rfl
    try simp only [Act.put, List.setIfInBounds_toArray, List.set_cons_zero, List.set_cons_succ]
    refine lex_val (v := ?_) rfl rfl (fun w' hf => ?_) ?_
    rotate_left
    · go_simp
      try rfl
    try simp only [Act.put, List.setIfInBounds_toArray, List.set_cons_zero, List.set_cons_succ]
    refine lex_val (v := ?_) rfl rfl (fun w' hf => ?_) ?_
    rotate_left
    · go_simp
      try rfl
    try simp only [Act.put, List.setIfInBounds_toArray, List.set_cons_zero, List.set_cons_succ]
    refine lex_val (v := ?_) rfl rfl (fun w' hf => ?_) ?_
    rotate_left
    · go_simp
      try rfl
    try simp only [Act.put, List.setIfInBounds_toArray, List.set_cons_zero, List.set_cons_succ]
    refine lex_val (v := ?_) rfl rfl (fun w' hf => ?_) ?_
    rotate_left
    · go_simp
      try rfl
    try simp only [Act.put, List.setIfInBounds_toArray, List.set_cons_zero, List.set_cons_succ]
    refine lex_val (v := ?_) rfl rfl (fun w' hf => ?_) ?_
    rotate_left
    · go_simp
      try rfl
    try simp only [Act.put, List.setIfInBounds_toArray, List.set_cons_zero, List.set_cons_succ]
    --#10
    refine lex_letter (f := 7) (args := ?_) rfl rfl (fun w' hf => ?_) (fun w' hf => ?_) ?_
    rotate_left
    · go_simp
      try rfl
    · exact (HFw.out w' (HR4.out.next hf.only.below0)).mono (fun e w'' ⟨⟨A9, c9, h1, h2, _⟩, h4⟩ => ⟨_, h1, ⟨A9, c9, rfl⟩, own_base (oints_own h2) hf.only.size, h4⟩)
    try simp only [Act.put, List.setIfInBounds_toArray, List.set_cons_zero, List.set_cons_succ]
    refine lex_call (f := 12) (args := ?_) rfl rfl (fun w' hf => ?_) (fun w' hf => ?_) ?_
    rotate_left
    · have hg : IlF w4.heap.size L (β 23) w' := hf.got 23 _ _ rfl (by kernel_rfl); rw [e23] at hg; (try rw [e23]); go_simp
      try rfl
    · have hg : IlF w4.heap.size L (β 23) w' := hf.got 23 _ _ rfl (by kernel_rfl); rw [e23] at hg; (try rw [e23]); exact HSm.out A2 A23 c2 c23 w' (HI4.out.next hf.only.below0) (OInts.reads hg)
    try simp only [Act.put, List.setIfInBounds_toArray, List.set_cons_zero, List.set_cons_succ]
    repeat (
      refine lex_val (v := ?_) rfl rfl (fun w' hf => ?_) ?_
      rotate_left
      · go_simp
        try rfl
      try simp only [Act.put, List.setIfInBounds_toArray, List.set_cons_zero, List.set_cons_succ])
    refine lex_nil fun w' he => ?_
    --#11
    have HE := Lib.hid he.only.below0
    clear he
    rename World => w5
    have HB5 := Lib.hid (HB4.out.trans (HE.out.mono HB4.out.size))
    have HT5 := Lib.hid (HT4.out.next HE.out)
    have HY5 := Lib.hid (HY4.out.next HE.out); have HZ5 := Lib.hid (HZ4.out.next HE.out)
    clear HE HB4 HT4 HR4 HI4 HY4 HZ4 HC3 HC4 HFw e5 e6 e15 e16 e23 hβ
    (try simp only [Act.put, List.setIfInBounds_toArray, List.set_cons_zero, List.set_cons_succ])
    obtain ⟨ab, hab⟩ : ∃ ab, ab = l4 ++ l5 := ⟨_, rfl⟩
    have HAl : Hid (ab.length = l4.length + l5.length) := Lib.hid (by rw [hab, List.length_append])
    have HAu : Hid (u8s ab = u8s l4 ++ u8s l5) := Lib.hid (by rw [hab, u8s_snoc])
    have HAb : Hid (∀ x ∈ ab, x < 256) := Lib.hid (fun x h => by rw [hab] at h; rcases List.mem_append.1 h with h | h; exact HN4.out x h; exact HN5.out x h)
    have HLn : Hid (ab.length ≤ 10000) := Lib.hid (by rw [HAl.out]; have := HL4.out; have := HL5.out; omega)
    have HAe : Hid (l4 = [] ∧ l5 = [] → ab = []) := Lib.hid (fun h => by rw [hab, h.1, h.2]; rfl)
    rw [← hab] at HYes
    clear hab
    have hal : Below w5.heap.size w5 (w5.alloc (.cells #[] 5)) := (Below.refl _ _).alloc (Nat.le_refl _) _
    have HO6 := Lib.hid (own_emp w5)
    have HW6 := Lib.hid hal
    have HR6 := Lib.hid (show Reads (w5.alloc (.cells #[] 5)) (w5.alloc (.cells #[] 5)).heap.size 1 A3 l4.length (u8s l4) from HY5.out.next hal)
    have HM6 : Hid (0 + l4.length ≤ maxLen) := Lib.hid (by have := HL4.out; unfold maxLen; omega)
    have HY6 : Hid ((0 + l4.length) * 1 ≤ 140737488355328) := Lib.hid (by have := HL4.out; omega)
    have HQ6 : Hid (w5.heap.size ≤ (w5.alloc (.cells #[] 5)).heap.size) := Lib.hid hal.size
    have HM7 : Hid (l4.length + l5.length ≤ maxLen) := Lib.hid (by have := HL4.out; have := HL5.out; unfold maxLen; omega)
    have HY7 : Hid ((l4.length + l5.length) * 1 ≤ 140737488355328) := Lib.hid (by have := HL4.out; have := HL5.out; omega)
    clear hal
    --#12
    go_upto_region 9 with fail
    --#13
    go_wp2_with (first
      | (at_builtin; refine wpList_append_any _ rfl _ _ 25 rfl w5.heap.size 5 i1 _ 1 1 Tryz.underlying25 HJ.out.1 HJ.out.2.1 HJ.out.2.2.1 HJ.out.2.2.2 rfl (by decide) _ 0 _ rfl HO6.out _ A3 l4.length c3 _ rfl HR6.out (u8s_one _) HM6.out HY6.out HQ6.out ?_; intro v7 w7 hown7 hg7 _; rw [Nat.zero_add, List.nil_append] at hown7; have HO7 := Lib.hid hown7; have HW7 := Lib.hid (below_row HW6.out hg7 (own_ge HO6.out) HQ6.out); have HR7 := Lib.hid (show Reads w7 w7.heap.size 1 A4 l5.length (u8s l5) from HZ5.out.next HW7.out); have HQ7 : Hid (w5.heap.size ≤ w7.heap.size) := Lib.hid HW7.out.size; clear hown7 hg7)
      | (at_builtin; refine wpList_append_any _ rfl _ _ 25 rfl w5.heap.size 5 i1 _ 1 1 Tryz.underlying25 HJ.out.1 HJ.out.2.1 HJ.out.2.2.1 HJ.out.2.2.2 rfl (by decide) _ l4.length _ rfl HO7.out _ A4 l5.length c4 _ rfl HR7.out (u8s_one _) HM7.out HY7.out HQ7.out ?_; intro v8 w8 hown8 hg8 _; replace hown8 : w8.ownsRow w5.heap.size 5 1 v8 ab.length (u8s ab) := (by rw [HAl.out, HAu.out]; exact hown8); obtain ⟨A8, c8, rfl⟩ := own_formS hown8; have HO8 := Lib.hid hown8; have HW8 := Lib.hid (below_row HW7.out hg8 (own_ge HO7.out) HQ7.out); clear hown8 hg8))
    have HSp := Lib.hid (split_any A8 c8 ab HAb.out (by have := HLn.out; omega) w8 (Reads.of_own HO8.out))
    have HB8 := Lib.hid (HB5.out.trans (HW8.out.mono HB5.out.size))
    have HT8 := Lib.hid (HT5.out.next HW8.out)
    clear HO6 HW6 HR6 HM6 HY6 HQ6 HM7 HY7 HO7 HW7 HR7 HQ7 HO8 HW8 HB5 HT5 HY5 HZ5 HAl HAu HAb HLn HL4 HL5 HN4 HN5
    by_cases hz : l4.length = 0
    · --#14
      have h44 : l4 = [] := List.eq_nil_of_length_eq_zero hz
      have h45 : l4 = [] ∧ l5 = [] := by
        rcases HNo.out with h | h
        · omega
        · exact h
      have hab := HAe.out h45
      have h55 := h45.2
      clear HYes HAe HNo HS4 HS5
      subst hab
      subst h44 h55
      rw [feedL_nil] at HSp
      refine HSp.out.mono ?_
      rintro e w9 ⟨v9, rfl, ho9, hb9⟩
      obtain ⟨A9, c9, rfl, _⟩ := ho9.reads
      have HB9 := Lib.hid (HB8.out.trans (hb9.mono HB8.out.size))
      go_wp2_with fail
      go_ret
      exact ⟨rfl, HB9.out⟩
    · --#15
      obtain ⟨c, m, s, hfd, hi4, hi5, hsz⟩ := HYes.out (by omega)
      rw [hfd] at HSp
      dsimp only at HSp
      have hz0 : ((l4.length : Int) == 0) = false := beq_eq_false_iff_ne.2 (by omega)
      have hzl : (l4.length == 0) = false := beq_eq_false_iff_ne.2 hz
      clear HYes HAe HNo hfd
      refine HSp.out.mono ?_
      rintro e w9 ⟨v9, rfl, ho9, hb9⟩
      obtain ⟨A9, c9, rfl, _⟩ := ho9.reads
      have HB9 := Lib.hid (HB8.out.trans (hb9.mono HB8.out.size))
      have HT9 := Lib.hid (HT8.out.next hb9)
      obtain ⟨g, P, p, D, d, Q, q, E, f, hA, ⟨hP, hD, hQ, hE⟩, hx, hy⟩ := two_toks ho9
      subst hA
      have hg9 : g < w9.heap.size := by
        obtain ⟨zs, h1, _⟩ := ho9
        exact (World.ownsRow.lt h1 g rfl).2
      have HX := Lib.hid hx; have HY := Lib.hid hy
      have HP9 := Lib.hid hP; have HQ9 := Lib.hid hQ; have HE9 := Lib.hid hE
      have HI1 := Lib.hid (fun W t => id_any 4 c m P (numsT L) p s D [] d (by have := HIz.out; omega) W t)
      have HI2 := Lib.hid (fun W t => id_any 5 c m Q (numsT L) q s E [97, 98] f (by have := HIz.out; omega) W t)
      rw [hi4] at HI1
      rw [hi5] at HI2
      unfold tkC at HI1 HI2
      have HSn : Hid (∀ W, RInts W P (numsT L) → RInts W Q (numsT L) → Calls Tryz.prog 12 #[.slice P (numsT L).length p, .slice Q (numsT L).length q] W fun e w' => e = .returned (.bool true) ∧ Below W.heap.size W w') := Lib.hid (fun W h1 h2 => by
        have z := sameInts_any P Q p q (numsT L) (numsT L) (by have := HNl.out; unfold maxLen; omega) (by have := HNl.out; unfold maxLen; omega) W h1 h2
        rw [show (numsT L == numsT L) = true by simp] at z
        exact z)
      have HFar : Hid (∀ W, Below w9.heap.size w9 W → ∀ j v, w9.cell? ⟨g, j, none⟩ = some v → W.cell? ⟨g, j, none⟩ = some v) := Lib.hid (fun W hb j v h => by rw [← h]; exact World.cell?_of_block (hb.block g hg9))
      have HCE : Hid (∀ W, Below w9.heap.size w9 W → (convert 25 9 (.slice E 2 f)).run Tryz.prog W = .ok (.string ⟨#[97, 98]⟩) W) := Lib.hid (fun W hb => by have z := HCv.out [97, 98] E f W (HE9.out.next hb); rw [show bstr [97, 98] = ⟨#[97, 98]⟩ by kernel_rfl] at z; exact z)
      clear ho9 hb9 hx hy hP hD hQ hE HSp HB8 HT8 hi4 hi5 hsz
      --#16
      go_upto_region 12 with fail
      --#17
      generalize (numsT L) = N at *
      refine wp_region_mix_lit (by kernel_rfl) [(14, .call (.string id)), (29, .call (.string id)), (50, .call (.bool true))] (by kernel_rfl) (by kernel_rfl) (by kernel_rfl) (by rfl) (by simp [apartK] <;> omega) (by simp [startK]) (by simp [stabK]) (⟨fun _ => undef, by simp [okK]⟩) (fun β hβ => ?_)
      repeat (
        refine lex_val (v := ?_) rfl rfl (fun w' hf => ?_) ?_
        rotate_left
        · have z0 := HFar.out w' hf.only.below0 0 _ HX.out.1; have z1 := HFar.out w' hf.only.below0 1 _ HX.out.2.1; have z2 := HFar.out w' hf.only.below0 2 _ HX.out.2.2.1; have z3 := HFar.out w' hf.only.below0 3 _ HX.out.2.2.2.1; have z4 := HFar.out w' hf.only.below0 4 _ HX.out.2.2.2.2.1; have z5 := HFar.out w' hf.only.below0 5 _ HX.out.2.2.2.2.2; (try dsimp only at z0 z1 z2 z3 z4 z5); go_simp
          try rfl
        try simp only [Act.put, List.setIfInBounds_toArray, List.set_cons_zero, List.set_cons_succ])
      --#18
      refine lex_call (f := 14) (args := ?_) rfl rfl (fun w' hf => ?_) (fun w' hf => ?_) ?_
      rotate_left
      · go_simp
        try rfl
      · exact HI1.out w' (HT9.out.next hf.only.below0)
      try simp only [Act.put, List.setIfInBounds_toArray, List.set_cons_zero, List.set_cons_succ]
      --#19
      repeat (
        refine lex_val (v := ?_) rfl rfl (fun w' hf => ?_) ?_
        rotate_left
        · have z0 := HFar.out w' hf.only.below0 6 _ HY.out.1; have z1 := HFar.out w' hf.only.below0 7 _ HY.out.2.1; have z2 := HFar.out w' hf.only.below0 8 _ HY.out.2.2.1; have z3 := HFar.out w' hf.only.below0 9 _ HY.out.2.2.2.1; have z4 := HFar.out w' hf.only.below0 10 _ HY.out.2.2.2.2.1; have z5 := HFar.out w' hf.only.below0 11 _ HY.out.2.2.2.2.2; (try dsimp only at z0 z1 z2 z3 z4 z5); go_simp
          try rfl
        try simp only [Act.put, List.setIfInBounds_toArray, List.set_cons_zero, List.set_cons_succ])
      refine lex_call (f := 14) (args := ?_) rfl rfl (fun w' hf => ?_) (fun w' hf => ?_) ?_
      rotate_left
      · go_simp
        try rfl
      · exact HI2.out w' (HT9.out.next hf.only.below0)
      try simp only [Act.put, List.setIfInBounds_toArray, List.set_cons_zero, List.set_cons_succ]
      --#20
      repeat (
        refine lex_val (v := ?_) rfl rfl (fun w' hf => ?_) ?_
        rotate_left
        · have z0 := HFar.out w' hf.only.below0 3 _ HX.out.2.2.2.1; have z3 := HFar.out w' hf.only.below0 9 _ HY.out.2.2.2.1; have z5 := HFar.out w' hf.only.below0 11 _ HY.out.2.2.2.2.2; have zc := HCE.out w' hf.only.below0; (try dsimp only at z0 z3 z5); go_simp
          try rfl
        try simp only [Act.put, List.setIfInBounds_toArray, List.set_cons_zero, List.set_cons_succ])
      refine lex_call (f := 12) (args := ?_) rfl rfl (fun w' hf => ?_) (fun w' hf => ?_) ?_
      rotate_left
      · go_simp
        try rfl
      · exact HSn.out w' (HP9.out.next hf.only.below0) (HQ9.out.next hf.only.below0)
      try simp only [Act.put, List.setIfInBounds_toArray, List.set_cons_zero, List.set_cons_succ]
      repeat (
        refine lex_val (v := ?_) rfl rfl (fun w' hf => ?_) ?_
        rotate_left
        · go_simp
          try rfl
        try simp only [Act.put, List.setIfInBounds_toArray, List.set_cons_zero, List.set_cons_succ])
      refine lex_nil fun w' he => ?_
      --#21
      have HE10 := Lib.hid (HB9.out.trans (he.only.below0.mono HB9.out.size))
      clear he
      go_wp2_with fail
      go_ret
      exact ⟨rfl, HE10.out⟩

set_option maxRecDepth 100000 in
/-- What the walk gives, for every argument and every world that holds the table. -/
theorem contract (H : Type) (enc : TypeId × Value → H) (W : World) (base : Nat) (args : Array Value) (ds gs : List (DataW H)) (before : List MemPlace)
    (hval : ∀ (j : Nat) t v, Tryz.f3.params[j]? = some t → args[j]? = some v → Value.okWide Tryz.prog W .any base t v)
    (hW : DataW.Whole enc Tryz.prog Tryz.f3.params.toList Rows.replyFunctionsSpec.vars false W args.toList ds gs before) (hL : laidMetH Tryz.prog Rows.replyFunctionsRow.laid W)
    (hreach : (DataW.weightsEach Tryz.prog (Tryz.f3.params.toList ++ []) (ds ++ gs)).all (· ≤ reachBytes) = true) :
    Calls Tryz.prog 3 args W fun e W' => ∃ v, e = .returned v ∧ Rows.replyFunctionsSpec.post enc Tryz.prog Tryz.f3 false true false false W args v W' := by
  have hW' := hW
  have ht := ten_of hL
  have hlts : ∀ x ∈ before, x.block < W.heap.size := fun x hx => hW'.lt x hx
  obtain ⟨p, q, hA0, hV, rfl, hfz, hnd⟩ := hW
  have hA : DataW.TrodAll enc Tryz.prog W 0 (fun _ => true) true Tryz.f3.params.toList args.toList ds p := hA0
  rw [Tryz.params3] at hA hval hreach
  obtain ⟨v0, vs0, d0, ds0, pp0, qq0, hargs, rfl, rfl, h0, rr0⟩ := trodAll_cons hA
  obtain ⟨v1, vs1, d1, ds1, pp1, qq1, rfl, rfl, rfl, h1, rr1⟩ := trodAll_cons rr0
  obtain ⟨v2, vs2, d2, ds2, pp2, qq2, rfl, rfl, rfl, h2, rr2⟩ := trodAll_cons rr1
  obtain ⟨rfl, rfl, rfl⟩ := trodAll_nil rr2
  obtain rfl : args = #[v0, v1, v2] := by cases args; simp_all
  obtain ⟨rfl, rfl⟩ := trodVars_none hV
  obtain ⟨a0, rfl, rfl, rfl⟩ := open_bool Tryz.underlying4 (hval 0 4 v0 rfl rfl) h0
  obtain ⟨s1, rfl, rfl, rfl, hs1⟩ := open_string Tryz.underlying9 (hval 1 9 v1 rfl rfl) h1
  obtain ⟨b2, len2, cap2, rfl⟩ := okWide_slice Tryz.underlying22 (hval 2 22 v2 rfl rfl)
  have hin2 := ints_in2 h2 (fun el sp e => by subst e; exact sized_slice hreach (j := 2) rfl rfl Tryz.underlying22)
  obtain ⟨ns2, hlen2, hm2, hc2, hri2⟩ := hin2
  subst hlen2
  clear hA0
  refine (walk a0 s1 hs1 b2 cap2 ns2 hm2 hc2 W ht hri2).mono fun e W' ⟨he, hb⟩ => ?_
  subst he
  exact ⟨_, rfl, post_law laidOut (by kernel_rfl) (by kernel_rfl) rfl hW' rfl hb⟩

set_option maxRecDepth 100000 in
theorem laid_met (os : Os) : laidMet Tryz.prog Rows.replyFunctionsRow.laid ((laidWorld os).forCall (fun _ _ => 0) ⟨#[], #[Value.bool false, Value.string ⟨#[]⟩, Value.slice none 0 0], []⟩).memory :=
  laidMet_of_run' 8 (by kernel_rfl) (by kernel_rfl)
set_option maxRecDepth 100000 in
theorem reads (os : Os) {H : Type} (enc : TypeId × Value → H) : ∃ places, DataW.whole enc Tryz.prog ((laidWorld os).forCall (fun _ _ => 0) ⟨#[], #[Value.bool false, Value.string ⟨#[]⟩, Value.slice none 0 0], []⟩).memory Tryz.f3.params.toList Rows.replyFunctionsSpec.vars false (#[Value.bool false, Value.string ⟨#[]⟩, Value.slice none 0 0] : Array Value).toList 8 = some ([.lit (.bool false), .lit (.string []), .nil], [], places) :=
  ⟨[], by kernel_rfl⟩

set_option maxRecDepth 100000 in
theorem lifted (os : Os) (started : os.Started) (H : Type) (enc : TypeId × Value → H) (F : Stop.Interp) :
    ReturnsInHanded {} Tryz.checked os 3 .any ((OpenSpec.ofChange Rows.replyFunctionsSpec).preRow enc Tryz.prog Tryz.f3 Rows.replyFunctionsRow.domain false Rows.replyFunctionsRow.laid) (((OpenSpec.ofChange Rows.replyFunctionsSpec).at F).post enc Tryz.prog Tryz.f3 false true false false) := by
  obtain ⟨places, hx⟩ := reads os enc
  refine returnsInHanded_of_row (C := Tryz.checked) (s := OpenSpec.ofChange Rows.replyFunctionsSpec) own started (by kernel_rfl) Tryz.func3
    (witness_row_at (enc := enc) (C := Tryz.checked) false (laidWorld os) #[Value.bool false, Value.string ⟨#[]⟩, Value.slice none 0 0] rfl (by kernel_rfl) (by kernel_rfl) (by kernel_rfl)
      (OpenSpec.preRow_of_cond 8 hx (by kernel_rfl) (fun k hk => by cases hk) (by kernel_rfl) (laid_met os))) ?_
  intro W base args ds gs before hval hW _ _ hreach hL _ _
  exact contract H enc W base args ds gs before hval hW hL hreach

theorem said : Rows.ReplyFunctionsSaid :=
  OpenClaim.holds_of_cond 3 Tryz.f3 rfl rfl rfl rfl rfl rfl rfl ⟨rfl, rfl, rfl, rfl, rfl⟩ rfl rfl rfl rfl rfl (by kernel_rfl) Tryz.func3 (by kernel_rfl)
    (of_decide_eq_true (by kernel_rfl)) (by unfold Func.isWrapper; first | (rw [if_pos (by decide +kernel)]; kernel_rfl) | (rw [if_neg (by decide +kernel)]; exact ⟨rfl, rfl⟩))
    (fun os started H enc _ F => by rw [OpenClaim.pre_eq_preRow]; exact lifted os started H enc F)

theorem plain (f : FuncId) (fn : Func) (hf : Tryz.pinned.checked.prog.funcNamed "phosphor/phosphorlaw18.ReplyFunctions" = some f) (hfn : Tryz.pinned.checked.prog.funcs[f]? = some fn) :
    false = Tryz.pinned.checked.prog.looks [] ∧ ∀ (j : Nat) t, fn.params[j]? = some t → Tryz.pinned.checked.prog.wantsStandIn t = false := by
  obtain rfl : f = 3 := Option.some.inj ((show Tryz.prog.funcNamed "phosphor/phosphorlaw18.ReplyFunctions" = some 3 by kernel_rfl).symm.trans hf) |>.symm
  obtain rfl : fn = Tryz.f3 := (Option.some.inj (Tryz.func3.symm.trans hfn)).symm
  refine ⟨by kernel_rfl, fun j t ht => ?_⟩
  rw [Tryz.params3] at ht
  have hm : t ∈ [4, 9, 22] := by simpa using Array.mem_of_getElem? ht
  have hall : ([4, 9, 22].all fun u => !Tryz.prog.wantsStandIn u) = true := by kernel_rfl
  exact (show Tryz.prog.wantsStandIn t = false by simpa using List.all_eq_true.1 hall t hm)

/-- The card. -/
theorem card : Rows.ReplyFunctionsCardSaid :=
  Claim7.holds_tied_plain_at .later [] _ _ _ _ said (fun _ h => by cases h) (by kernel_rfl) (fun _ h => by cases h) replyFunctions_row_tie rfl ⟨rfl, rfl⟩ (by kernel_rfl) rfl plain (by kernel_rfl)
#print axioms card
end Go.Proofs.YtigaaidacndeiaaGreatDoor.replyFunctions

/-
  PhosphorSet holds, whatever the input: the card of the statement, with the tables of the renditions' parts, of the sets' faces and the library's three tables tied to the program's text.
-/
import Derived.Test.YtfnamfkjbkhgeaaGreatDoorCards
import Derived.Test.YtfnamfkjbkhgeaaGreatDoorTie
import Derived.Test.YtfnamfkjbkhgeaaGreatDoorFrameSe
import Derived.Test.YtfnamfkjbkhgeaaGreatDoorSetB
namespace Go.Proofs.YtfnamfkjbkhgeaaGreatDoor.phosphorSet
open Go.ChangeShapes Go.WideShapes Go.ChangeAt Go.RowKit
open Go.ChangeMaps (open_string)

set_option maxRecDepth 100000 in
set_option maxHeartbeats 8000000 in
theorem walk (x : Co) (mz : Int) (lo : 0 ≤ x.K.rd) (hi : x.K.rd ≤ 255) (w : World) (ht : Tab w) (hfc : Faces w) (htn : Ten w) :
    Calls Tryz.prog 5 #[.agg (coZ x mz)] w fun e w' => e = .returned (.bool true) ∧ Below w.heap.size w w' := by
  have hT := Lib.hid ht; have hF := Lib.hid hfc; have hN := Lib.hid htn
  have hS : (coZ x mz).size = 29 := rfl
  have HS := Lib.hid ((Bs.nil w).alloc 33 (coZ x mz))
  have c21 : (w.alloc (.cells (coZ x mz) 33)).cell? ⟨w.heap.size, 21, none⟩ = some (.int .i64 mz) := Blk.cell HS.out.b0 21
  have c15 : (w.alloc (.cells (coZ x mz) 33)).cell? ⟨w.heap.size, 15, none⟩ = some (.int .i64 x.f.pb) := Blk.cell HS.out.b0 15
  have c16 : (w.alloc (.cells (coZ x mz) 33)).cell? ⟨w.heap.size, 16, none⟩ = some (.int .i64 x.f.pr) := Blk.cell HS.out.b0 16
  clear ht hfc htn
  by_cases h1 : mz < 0
  · have g1 : (mz < 0) = True := eq_true h1
    generalize coZ x mz = X at *
    clear hS lo hi
    go_enter Tryz.func5, Tryz.ntmps5
    go_wp2_with fail
    go_ret
    exact ⟨rfl, HS.out.bel⟩
  have g1 : (mz < 0) = False := eq_false h1
  by_cases h2 : 4294967296 ≤ mz
  · have g2 : (4294967296 ≤ mz) = True := eq_true h2
    generalize coZ x mz = X at *
    clear hS lo hi
    go_enter Tryz.func5, Tryz.ntmps5
    go_wp2_with fail
    go_ret
    exact ⟨rfl, HS.out.bel⟩
  have g2 : (4294967296 ≤ mz) = False := eq_false h2
  by_cases h3 : 60000 < x.f.pb
  · have g3 : (60000 < x.f.pb) = True := eq_true h3
    generalize coZ x mz = X at *
    clear hS lo hi
    go_enter Tryz.func5, Tryz.ntmps5
    go_wp2_with fail
    go_ret
    exact ⟨rfl, HS.out.bel⟩
  have g3 : (60000 < x.f.pb) = False := eq_false h3
  by_cases h4 : 60000 < x.f.pr
  · have g4 : (60000 < x.f.pr) = True := eq_true h4
    generalize coZ x mz = X at *
    clear hS lo hi
    go_enter Tryz.func5, Tryz.ntmps5
    go_wp2_with fail
    go_ret
    exact ⟨rfl, HS.out.bel⟩
  have g4 : (60000 < x.f.pr) = False := eq_false h4
  --#0
  obtain ⟨z, hz⟩ : ∃ z : Co, z = { x with m := mz.toNat } := ⟨_, rfl⟩
  have hzX : coZ x mz = coC .i64 z := by
    have e : ((mz.toNat : Nat) : Int) = mz := by omega
    subst hz
    unfold coZ coC
    simp only [e]
  have hzm : z.m < 2 ^ 32 := by subst hz; show mz.toNat < 2 ^ 32; omega
  obtain ⟨H, W, it, il, ib, ir, hfr⟩ := fr_ok z.f (by subst hz; show x.f.pb ≤ 60000; omega) (by subst hz; show x.f.pr ≤ 60000; omega)
  have lo' : 0 ≤ z.K.rd := by subst hz; exact lo
  have hi' : z.K.rd ≤ 255 := by subst hz; exact hi
  have HOw := Lib.hid (fun V => coOwn_any hzm V)
  have HSe : Hid (∀ r ∈ setTab, ∃ ns, (∀ V, Tab V → Faces V → Ten V → Calls Tryz.prog 17 #[coV .u32 z, .string r.1] V fun e w' => e = .returned (.tuple #[.string (setS ns r.1), .bool true]) ∧ Below V.heap.size V w') ∧ ns ≠ [] ∧ ns.length ≤ 10 ∧ ∀ n ∈ ns, 0 ≤ n ∧ n ≤ 65535) := Lib.hid (fun r hr => by
    obtain ⟨ns, h1, h2⟩ := set_val hfr hr
    refine ⟨ns, fun V t f n => ?_, h2⟩
    have q := setting_any hfr lo' hi' hzm r.1 V t f n
    rw [h1] at q
    exact q)
  have hS1 := coS .u32 z
  have hO1 := co_one .u32 z
  rw [hzX] at HS hS ⊢
  rw [hzX] at c21 c15 c16
  clear hzX hz hzm hfr lo' hi' lo hi h1 h2 h3 h4
  unfold coV at *
  generalize coC .u32 z = XU at *
  generalize coC .i64 z = X at *
  go_enter Tryz.func5, Tryz.ntmps5
  --#1
  go_upto_region 3 with fail
  clear g1 g2 g3 g4 c21 c15 c16
  --#2
  go_wp2_with (first | (refine wpList_load_row rfl _ _ rfl w.heap.size rfl _ X (0, 0) _ HS.out.b0 under_cr rfl (by rw [hS]; exact info_cr) ?_))
  refine (HOw.out _).mono ?_
  rintro e w1 ⟨rfl, hb⟩
  have HK1 := Lib.hid (HS.out.next hb)
  clear hb HS HOw
  --#3
  go_upto_region 4 with (refine wpList_store_row rfl _ _ _ rfl w1.heap.size XU rfl rfl _ _ (Blk.new w1 _ _) (by rw [hS1]; exact info_co) (by rw [hS1]; rfl) hO1 ?_)
  have HK2 : Hid (Bs w [(w1.heap.size, 45, XU)] (w1.alloc (.cells XU 45))) := Lib.hid ((show Bs w [] w1 from ⟨fun x hx => (by cases hx), List.Pairwise.nil, HK1.out.bel⟩).alloc 45 XU)
  refine world_gen (fun V => Bs w [(w1.heap.size, 45, XU)] V) (by rw [World.setRow_alloc_new]; exact HK2.out) ?_
  intro V0 HV
  generalize w1.heap.size = b1 at *
  replace HV := Lib.hid HV
  clear HK1 HK2 hO1 hS
  have HN := Lib.hid (HV.out.alloc 9 #[.string ⟨#[109]⟩, .string ⟨#[114]⟩, .string ⟨#[115]⟩, .string ⟨#[34, 113]⟩, .string ⟨#[34, 112]⟩, .string ⟨#[42, 120]⟩, .string ⟨#[116]⟩, .string ⟨#[36, 124]⟩, .string ⟨#[36, 126]⟩, .string ⟨#[36, 125]⟩])
  obtain ⟨bs, hbs⟩ : ∃ bs, bs = V0.heap.size := ⟨_, rfl⟩
  --#4
  go_wp2_with fail
  go_loopw [36] (fun i wr => ∃ k : Nat, k ≤ 10 ∧ i = .int .i64 k ∧ Bs w [(V0.heap.size, 9, ((setTab.map (·.1)).map Value.string).toArray), (b1, 45, XU)] wr) (fun i _ => 10 - (intOf i).toNat)
  case atStart => exact ⟨0, by omega, rfl, HN.out⟩
  case round =>
    obtain ⟨k, hk, rfl, hB⟩ := hrel
    replace hB := Lib.hid hB
    clear HN HV hbs
    by_cases hlt : k < 10
    · obtain ⟨r, hr⟩ : ∃ r, setTab[k]? = some r := ⟨_, List.getElem?_eq_getElem (by show k < 10; omega)⟩
      have hcell : wr.cell? ⟨V0.heap.size, k, none⟩ = some (.string r.1) := (Blk.cell hB.out.b0 k).trans (by rw [List.getElem?_toArray, List.getElem?_map, List.getElem?_map, hr]; rfl)
      have hmem : r ∈ setTab := List.mem_of_getElem? hr
      obtain ⟨ns, hse, hne, hl10, hin⟩ := HSe.out r hmem
      have HSk := Lib.hid hse
      have HRd := Lib.hid (set_read hmem (by omega) hin)
      have HAg := Lib.hid (set_again hmem ns)
      have HId := Lib.hid (set_id hmem)
      have HSz := Lib.hid (set_size hmem ns)
      have HCn := Lib.hid (set_const r hmem)
      have HRl := Lib.hid (rep_len 5 ⟨#[36, 114]⟩ (setS ns r.1) [1] false)
      have HRt := Lib.hid (rep_lt 5 ⟨#[36, 114]⟩ (setS ns r.1) [1] false)
      have hnl : ((ns.length : Int) = 0) = False := eq_false (by have := List.length_pos_iff.2 hne; omega)
      have hnb : ((ns.length : Int) == 0) = false := by have := List.length_pos_iff.2 hne; exact beq_eq_false_iff_ne.2 (by omega)
      have hwk : IntKind.i64.wrap ((k : Int) + 1) = (k : Int) + 1 := IntWalk.i64_in _ (by omega)
      have k1 : ((k : Int) < 10) = True := eq_true (by omega)
      have HK := Lib.hid hlt
      obtain ⟨id, cd, it⟩ := r
      dsimp only at *
      have HBk := Lib.hid (bstr_natL (setS ns id))
      have HDc := Lib.hid (fun A W t h => dcs_any false ⟨#[36, 114]⟩ (setS ns id) A 1 [1] (by simp [maxLen]) (by simp) (size_le (n := 2) rfl (by decide)) (by have := HSz.out; unfold maxLen; omega) W t h)
      generalize repL 5 ⟨#[36, 114]⟩ (setS ns id) [1] false = l2 at *
      generalize setS ns id = s at *
      clear hr hmem hse hne hl10 hin HSe hlt hk
      --#5
      go_upto_region 7 with fail
      go_wp2_with (first | (refine wpList_load_row rfl _ _ rfl b1 rfl _ XU (0, 0) _ hB.out.b1 under_co rfl (by rw [hS1]; exact info_co) ?_))
      refine (HSk.out _ (hT.out.next hB.out.bel) (hF.out.next hB.out.bel) (hN.out.next hB.out.bel)).mono ?_
      rintro e1 w4 ⟨rfl, hb⟩
      have hB4 := Lib.hid (hB.out.next hb)
      clear hb HSk hcell hB
      --#6
      go_upto_region 8 with fail
      obtain ⟨s2, hs2⟩ : ∃ s2, (⟨#[27, 91]⟩ : ByteArray) ++ s = s2 := ⟨_, rfl⟩
      have HS2 : Hid (natL s2.data.toList = 27 :: 91 :: natL s.data.toList) := Lib.hid (by rw [← hs2]; exact csi_nat s)
      rw [← HS2.out] at HRd
      have HL2 : Hid ((natL s2.data.toList).length ≤ 1000000) := Lib.hid (by rw [HS2.out]; show (List.map _ _).length + 1 + 1 ≤ _; rw [List.length_map, dlen]; have := HSz.out; omega)
      obtain ⟨u5, w5, hcv5, ⟨g5, c5, rfl⟩, hf5, hb5⟩ := str_made w4.heap.size s2 w4 (Nat.le_refl _)
      have hby5 := strF_by hf5
      have hl5 : s2.size = (natL s2.data.toList).length := by show _ = (List.map _ _).length; rw [List.length_map, dlen]
      rw [hl5] at hcv5
      have hB5 := Lib.hid (hB4.out.next hb5)
      have HSq := Lib.hid (split_any (some ⟨g5, 0, none⟩) c5 (natL s2.data.toList) (stNat_lt s2) HL2.out w5 hby5)
      rw [HRd.out] at HSq
      dsimp only at HSq
      clear hby5 hb5 hf5 hl5 hB4 HRd HS2 HL2
      generalize natL s2.data.toList = l1 at *
      have hcat : (9223372036854775807 < 2 + s.size) = False := eq_false (by have := HSz.out; omega)
      --#7
      go_wp2_with fail
      clear hcat hcv5
      --#8
      refine HSq.out.mono ?_
      rintro e w6 ⟨v6, rfl, ho6, hb6⟩
      have hB6 := Lib.hid (hB5.out.next hb6)
      obtain ⟨A6, c6, rfl, _⟩ := ho6.reads
      obtain ⟨g, P, p, D, d, hA, _, hx⟩ := one_tokB ho6
      subst hA
      have HId6 := Lib.hid (id_any 4 cd 0 P ns p it D [] d (by have := HCn.out.2.2.2.2.2.1; omega) w6 (hN.out.next hB6.out.bel))
      rw [HId.out] at HId6
      unfold tkC at HId6
      obtain ⟨x0, x1, x2, x3, x4, x5⟩ := hx
      (try dsimp only at x0 x1 x2 x3 x4 x5)
      have hg6 : g < w6.heap.size := by
        obtain ⟨zs, h1, _⟩ := ho6
        exact (World.ownsRow.lt h1 g rfl).2
      have HX3 := Lib.hid x3
      have HFar : Hid (∀ W, Below w6.heap.size w6 W → ∀ j v, w6.cell? ⟨g, j, none⟩ = some v → W.cell? ⟨g, j, none⟩ = some v) := Lib.hid (fun W hb j v h => by rw [← h]; exact World.cell?_of_block (hb.block g hg6))
      have hwz0 : IntKind.i64.wrap 0 = 0 := by rfl
      clear ho6 hb6 hB5 HSq HId hg6
      --#9
      go_upto_region 9 with fail
      --#10
      go_wp2_with fail
      refine HId6.out.mono ?_
      rintro e w7 ⟨rfl, hb7⟩
      have hB7 := Lib.hid (hB6.out.next hb7)
      clear x0 x1 x2 x3 x4 x5
      have x3 := HFar.out w7 hb7 3 _ HX3.out
      clear HId6 hb7 hB6
      --#11
      go_upto_region 11 with fail
      clear x3 HFar HX3
      have hal8 : Below w7.heap.size w7 (w7.alloc (.cells #[.int .i64 1] 3)) := (Below.refl _ _).alloc (Nat.le_refl _) _
      have hB8 := Lib.hid (hB7.out.next hal8)
      have HDk := Lib.hid (HDc.out (some ⟨w7.heap.size, 0, none⟩) _ (hN.out.next hB8.out.bel) (rints_new w7 3 [1] #[.int .i64 1] rfl w7.heap.size rfl))
      clear hal8 HDc
      --#12
      go_wp2_with fail
      refine HDk.out.mono ?_
      rintro e w9 ⟨⟨v9, rfl, ho9⟩, hb9⟩
      obtain ⟨A9, c9, rfl⟩ := ho9.form
      have hB9 := Lib.hid (hB8.out.next hb9)
      have HSr := Lib.hid (split_any A9 c9 l2 HRt.out (by have := HRl.out; omega) w9 ho9.reads)
      rw [HAg.out] at HSr
      dsimp only at HSr
      clear ho9 hb9 hB8 HDk HAg HRl HRt
      --#13
      go_wp2_with fail
      refine HSr.out.mono ?_
      rintro e w10 ⟨v10, rfl, ho10, hb10⟩
      have hB10 := Lib.hid (hB9.out.next hb10)
      obtain ⟨A10, c10, rfl, _⟩ := ho10.reads
      obtain ⟨g', P', p', D', d', hA', hD', hx'⟩ := one_tokB ho10
      subst hA'
      have y5 := hx'.2.2.2.2.2
      have hcv := conv_by hD' d'
      (try dsimp only at y5 hcv)
      rw [HBk.out] at hcv
      clear ho10 hb10 hB9 HSr hx' hD' HBk
      --#14
      go_wp2_with fail
      --#15
      go_roundw
      case rel => exact ⟨k + 1, by have := HK.out; omega, by simp, hB10.out⟩
      case measure => have := HK.out; simp [intOf]; omega
    · obtain rfl : k = 10 := by omega
      clear HSe hT hF hN
      --#16
      go_wp2_with fail
      go_ret
      exact ⟨rfl, hB.out.bel⟩

set_option maxRecDepth 100000 in
/-- What the walk gives, for every argument and every world that holds the table. -/
theorem contract (H : Type) (enc : TypeId × Value → H) (W : World) (base : Nat) (args : Array Value) (ds gs : List (DataW H)) (before : List MemPlace)
    (hval : ∀ (j : Nat) t v, Tryz.f5.params[j]? = some t → args[j]? = some v → Value.okWide Tryz.prog W .any base t v)
    (hW : DataW.Whole enc Tryz.prog Tryz.f5.params.toList Rows.phosphorSetSpec.vars false W args.toList ds gs before) (hL : laidMetH Tryz.prog Rows.phosphorSetRow.laid W)
    (hreach : (DataW.weightsEach Tryz.prog (Tryz.f5.params.toList ++ []) (ds ++ gs)).all (· ≤ reachBytes) = true) :
    Calls Tryz.prog 5 args W fun e W' => ∃ v, e = .returned v ∧ Rows.phosphorSetSpec.post enc Tryz.prog Tryz.f5 false true false false W args v W' := by
  have hW' := hW
  have ht := tabSe hL
  have hs := facesSe hL
  have hn := tenSe hL
  have hlts : ∀ x ∈ before, x.block < W.heap.size := fun x hx => hW'.lt x hx
  obtain ⟨p, q, hA0, hV, rfl, hfz, hnd⟩ := hW
  have hA : DataW.TrodAll enc Tryz.prog W 0 (fun _ => true) true Tryz.f5.params.toList args.toList ds p := hA0
  rw [Tryz.params5] at hA hval hreach
  obtain ⟨v0, vs0, d0, ds0, pp0, qq0, hargs, rfl, rfl, h0, rr0⟩ := trodAll_cons hA
  obtain ⟨rfl, rfl, rfl⟩ := trodAll_nil rr0
  obtain rfl : args = #[v0] := by cases args; simp_all
  obtain ⟨rfl, rfl⟩ := trodVars_none hV
  obtain ⟨x0, mz0, rfl, lo0, hi0⟩ := core_in (hval 0 33 v0 rfl rfl) h0
  clear hA0
  refine (walk x0 mz0 lo0 hi0 W ht hs hn).mono fun e W' ⟨he, hb⟩ => ?_
  subst he
  exact ⟨_, rfl, post_law laidOut (by kernel_rfl) (by kernel_rfl) rfl hW' rfl hb⟩

set_option maxRecDepth 100000 in
theorem laid_met (os : Os) : laidMet Tryz.prog Rows.phosphorSetRow.laid ((laidWorldSe os).forCall (fun _ _ => 0) ⟨#[], #[Value.agg #[.int .i64 0, .int .i64 0, .int .u8 0, .bool false, .bool false, .bool false, .int .i64 0, .int .i64 0, .int .i64 0, .int .i64 0, .int .i64 0, .int .i64 0, .int .i64 0, .int .i64 0, .int .i64 0, .int .i64 0, .int .i64 0, .int .i64 0, .int .i64 0, .int .i64 0, .int .i64 0, .int .i64 0, .int .i64 0, .bool false, .bool false, .int .i64 0, .bool false, .int .i64 0, .int .i64 0]], []⟩).memory :=
  laidMet_of_run' 8 (by kernel_rfl) (by kernel_rfl)
set_option maxRecDepth 100000 in
theorem reads (os : Os) {H : Type} (enc : TypeId × Value → H) : ∃ places, DataW.whole enc Tryz.prog ((laidWorldSe os).forCall (fun _ _ => 0) ⟨#[], #[Value.agg #[.int .i64 0, .int .i64 0, .int .u8 0, .bool false, .bool false, .bool false, .int .i64 0, .int .i64 0, .int .i64 0, .int .i64 0, .int .i64 0, .int .i64 0, .int .i64 0, .int .i64 0, .int .i64 0, .int .i64 0, .int .i64 0, .int .i64 0, .int .i64 0, .int .i64 0, .int .i64 0, .int .i64 0, .int .i64 0, .bool false, .bool false, .int .i64 0, .bool false, .int .i64 0, .int .i64 0]], []⟩).memory Tryz.f5.params.toList Rows.phosphorSetSpec.vars false (#[Value.agg #[.int .i64 0, .int .i64 0, .int .u8 0, .bool false, .bool false, .bool false, .int .i64 0, .int .i64 0, .int .i64 0, .int .i64 0, .int .i64 0, .int .i64 0, .int .i64 0, .int .i64 0, .int .i64 0, .int .i64 0, .int .i64 0, .int .i64 0, .int .i64 0, .int .i64 0, .int .i64 0, .int .i64 0, .int .i64 0, .bool false, .bool false, .int .i64 0, .bool false, .int .i64 0, .int .i64 0]] : Array Value).toList 8 = some ([.agg [.agg [.lit (.int .i64 0), .lit (.int .i64 0), .lit (.int .u8 0), .lit (.bool false), .lit (.bool false), .lit (.bool false), .agg [.agg [.lit (.int .i64 0), .lit (.int .i64 0), .lit (.int .i64 0), .lit (.int .i64 0)], .lit (.int .i64 0), .lit (.int .i64 0), .lit (.int .i64 0)]], .agg [.agg [.lit (.int .i64 0), .lit (.int .i64 0), .lit (.int .i64 0), .lit (.int .i64 0)], .agg [.lit (.int .i64 0), .lit (.int .i64 0), .lit (.int .i64 0), .lit (.int .i64 0)]], .lit (.int .i64 0), .lit (.int .i64 0), .lit (.bool false), .lit (.bool false), .lit (.int .i64 0), .lit (.bool false), .lit (.int .i64 0), .lit (.int .i64 0)]], [], places) :=
  ⟨[], by kernel_rfl⟩

set_option maxRecDepth 100000 in
theorem lifted (os : Os) (started : os.Started) (H : Type) (enc : TypeId × Value → H) (F : Stop.Interp) :
    ReturnsInHanded {} Tryz.checked os 5 .any ((OpenSpec.ofChange Rows.phosphorSetSpec).preRow enc Tryz.prog Tryz.f5 Rows.phosphorSetRow.domain false Rows.phosphorSetRow.laid) (((OpenSpec.ofChange Rows.phosphorSetSpec).at F).post enc Tryz.prog Tryz.f5 false true false false) := by
  obtain ⟨places, hx⟩ := reads os enc
  refine returnsInHanded_of_row (C := Tryz.checked) (s := OpenSpec.ofChange Rows.phosphorSetSpec) own started (by kernel_rfl) Tryz.func5
    (witness_row_at (enc := enc) (C := Tryz.checked) false (laidWorldSe os) #[Value.agg #[.int .i64 0, .int .i64 0, .int .u8 0, .bool false, .bool false, .bool false, .int .i64 0, .int .i64 0, .int .i64 0, .int .i64 0, .int .i64 0, .int .i64 0, .int .i64 0, .int .i64 0, .int .i64 0, .int .i64 0, .int .i64 0, .int .i64 0, .int .i64 0, .int .i64 0, .int .i64 0, .int .i64 0, .int .i64 0, .bool false, .bool false, .int .i64 0, .bool false, .int .i64 0, .int .i64 0]] rfl (by kernel_rfl) (by kernel_rfl) (by kernel_rfl)
      (OpenSpec.preRow_of_cond 8 hx (by kernel_rfl) (fun k hk => by cases hk) (by kernel_rfl) (laid_met os))) ?_
  intro W base args ds gs before hval hW _ _ hreach hL _ _
  exact contract H enc W base args ds gs before hval hW hL hreach

theorem said : Rows.PhosphorSetSaid :=
  OpenClaim.holds_of_cond 5 Tryz.f5 rfl rfl rfl rfl rfl rfl rfl ⟨rfl, rfl, rfl, rfl, rfl⟩ rfl rfl rfl rfl rfl (by kernel_rfl) Tryz.func5 (by kernel_rfl)
    (of_decide_eq_true (by kernel_rfl)) (by unfold Func.isWrapper; first | (rw [if_pos (by decide +kernel)]; kernel_rfl) | (rw [if_neg (by decide +kernel)]; exact ⟨rfl, rfl⟩))
    (fun os started H enc _ F => by rw [OpenClaim.pre_eq_preRow]; exact lifted os started H enc F)

theorem plain (f : FuncId) (fn : Func) (hf : Tryz.pinned.checked.prog.funcNamed "phosphor/phosphortop.PhosphorSet" = some f) (hfn : Tryz.pinned.checked.prog.funcs[f]? = some fn) :
    false = Tryz.pinned.checked.prog.looks [] ∧ ∀ (j : Nat) t, fn.params[j]? = some t → Tryz.pinned.checked.prog.wantsStandIn t = false := by
  obtain rfl : f = 5 := Option.some.inj ((show Tryz.prog.funcNamed "phosphor/phosphortop.PhosphorSet" = some 5 by kernel_rfl).symm.trans hf) |>.symm
  obtain rfl : fn = Tryz.f5 := (Option.some.inj (Tryz.func5.symm.trans hfn)).symm
  refine ⟨by kernel_rfl, fun j t ht => ?_⟩
  rw [Tryz.params5] at ht
  have hm : t ∈ [33] := by simpa using Array.mem_of_getElem? ht
  have hall : ([33].all fun u => !Tryz.prog.wantsStandIn u) = true := by kernel_rfl
  exact (show Tryz.prog.wantsStandIn t = false by simpa using List.all_eq_true.1 hall t hm)

/-- The card. -/
theorem card : Rows.PhosphorSetCardSaid :=
  Claim7.holds_tied_plain_at .later [] _ _ _ _ said (fun _ h => by cases h) (by kernel_rfl) (fun _ h => by cases h) phosphorSet_row_tie rfl ⟨rfl, rfl⟩ (by kernel_rfl) rfl plain (by kernel_rfl)
#print axioms card
end Go.Proofs.YtfnamfkjbkhgeaaGreatDoor.phosphorSet

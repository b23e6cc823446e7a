/-
  UdkFull holds, whatever the input: the card of the statement, with the library's tables, its two errors and the keys' numbers tied to the program's text.
-/
import Derived.Test.YtlhabooeeohniaaDoorCards
import Derived.Test.YtlhabooeeohniaaDoorTie
import Derived.Test.YtlhabooeeohniaaDoorFrameUd
import Derived.Test.YtlhabooeeohniaaDoorUdkJ
namespace Go.Proofs.YtlhabooeeohniaaDoor.udkFull
open Go.ChangeShapes Go.WideShapes Go.ChangeAt Go.RowKit
open Go.ChangeMaps (open_string)

set_option maxRecDepth 100000 in
set_option maxHeartbeats 16000000 in
theorem walk (a : Int) (b : Int) (w : World) (hu : UEnv w) :
    Calls Tryd.prog 4 #[.int .i64 a, .int .i64 b] w fun e w' => e = .returned (.bool true) ∧ Below w.heap.size w w' := by
  have HAw := Lib.hid (udkAwake_any w hu)
  have HU := Lib.hid hu
  obtain ⟨ma, hma⟩ : ∃ x : Int, min a 1000 = x := ⟨_, rfl⟩
  obtain ⟨mb, hmb⟩ : ∃ x : Int, min b 1000 = x := ⟨_, rfl⟩
  obtain ⟨n, hnn⟩ : ∃ n : Nat, max 0 ma = (n : Int) := ⟨(max 0 ma).toNat, by omega⟩
  obtain ⟨m, hmm⟩ : ∃ n : Nat, max 0 mb = (n : Int) := ⟨(max 0 mb).toNat, by omega⟩
  have hn : n ≤ 1000 := by omega
  have hm : m ≤ 1000 := by omega
  clear hu
  go_enter Tryd.func4, Tryd.ntmps4
  go_wp2_with fail
  refine HAw.out.mono ?_
  rintro e w1 ⟨rfl, hb⟩
  have HB1 := Lib.hid hb
  clear hb HAw
  --#1
  go_upto_region 5 with fail
  --#2
  clear hma hmb hnn hmm
  go_upto_region 6 with fail
  rw [zero_keys]
  have HB2 := Lib.hid (show Below w.heap.size w (w1.alloc (.cells (keyC noT false) 26)) from HB1.out.alloc HB1.out.size _)
  have HK2 := Lib.hid (KeyB.new w1 noT false rfl)
  have HBN : Hid (w.heap.size ≤ w1.heap.size) := Lib.hid HB1.out.size
  have HFN : Hid (FarU w1.heap.size) := Lib.hid (FarU.new HU.out HB1.out.size)
  generalize w1.alloc (.cells (keyC noT false) 26) = w2 at *
  generalize w1.heap.size = N at *
  clear HB1
  have HHn := Lib.hid (fun W => lawHex_any n hn W)
  have HHm := Lib.hid (fun W => lawHex_any m hm W)
  have HH1 := Lib.hid (fun W => lawHex_any 1 (by decide) W)
  have hadd : ∀ (a b : List Nat), a.length + b.length ≤ 100000 → ∀ W, (Op.stringOp .add (bstr a) (bstr b)).run Tryd.prog W = .ok (.string (bstr (a ++ b))) W := fun a b h W => by
    rw [run_string_add_sum W _ _ (by rw [bstr_size, bstr_size]; omega), ← bstr_append]
  have hz := fours_len m
  have hzn := fours_len n
  have hz1 := fours_len 1
  have A0 : ∀ W, (Op.stringOp .add ⟨#[49, 55, 47]⟩ (bstr (fours n))).run Tryd.prog W = .ok (.string (bstr ([49, 55, 47] ++ fours n))) W := fun W => hadd [49, 55, 47] (fours n) (by simp; omega) W
  have A1 : ∀ W, (Op.stringOp .add ⟨#[49, 56, 47]⟩ (bstr (fours m))).run Tryd.prog W = .ok (.string (bstr ([49, 56, 47] ++ fours m))) W := fun W => hadd [49, 56, 47] (fours m) (by simp; omega) W
  have A2 : ∀ W, (Op.stringOp .add (bstr ([49, 56, 47] ++ fours m)) ⟨#[59, 49, 57, 47]⟩).run Tryd.prog W = .ok (.string (bstr (([49, 56, 47] ++ fours m) ++ [59, 49, 57, 47]))) W := fun W => hadd _ [59, 49, 57, 47] (by simp; omega) W
  have A3 : ∀ W, (Op.stringOp .add (bstr (([49, 56, 47] ++ fours m) ++ [59, 49, 57, 47])) (bstr (fours 1))).run Tryd.prog W = .ok (.string (bstr ((([49, 56, 47] ++ fours m) ++ [59, 49, 57, 47]) ++ fours 1))) W := fun W => hadd _ (fours 1) (by simp; omega) W
  have A4 : ∀ W, (Op.stringOp .add ⟨#[50, 48, 47]⟩ (bstr (fours m))).run Tryd.prog W = .ok (.string (bstr ([50, 48, 47] ++ fours m))) W := fun W => hadd [50, 48, 47] (fours m) (by simp; omega) W
  clear hadd hz hzn hz1
  --#3
  go_wp2_with fail
  refine (HHn.out _).mono ?_
  rintro e w3 ⟨rfl, hb⟩
  have HB3 := Lib.hid (HB2.out.trans (hb.mono HB2.out.size))
  have HK3 := Lib.hid (HK2.out.next hb)
  clear hb HHn HK2
  have HD1 := Lib.hid (def1_any N HFN.out n hn w3 HK3.out (HU.out.next HB3.out))
  generalize bstr ([49, 55, 47] ++ fours n) = t0 at *
  generalize bstr (fours n) = tn at *
  --#4
  go_wp2_with fail
  refine HD1.out.mono ?_
  rintro e w5 ⟨hc, hg⟩
  have HB5 := Lib.hid (HB3.out.trans (below_of_grown hg (HB3.out.size) (HBN.out)))
  clear hg HD1 A0 HB2 HB3
  rcases hc with ⟨hn8, rfl, hk⟩ | ⟨hn8, rfl, hk⟩
  · obtain ⟨x, hx⟩ : ∃ x, x = defW n := ⟨_, rfl⟩
    have hxz : x.size = n := by rw [hx, defW_size]
    rw [← hx] at hk
    have HK5 := Lib.hid hk
    have q0 : ((n : Int) ≤ 804) = True := eq_true (by omega)
    clear hk hx
    go_upto_region 11 with fail
    clear q0
    subst hxz
    have hx8 : x.size ≤ 804 := hn8
    clear hn hn8
    have hw1 : IntKind.i64.wrap ((x.size : Int) + (m : Int)) = (x.size : Int) + m := IntWalk.i64_in _ (by omega)
    have hw2 : IntKind.i64.wrap ((x.size : Int) + (m : Int) + 1) = (x.size : Int) + m + 1 := IntWalk.i64_in _ (by omega)
    have hw3 : IntKind.i64.wrap (804 - (x.size : Int)) = 804 - (x.size : Int) := IntWalk.i64_in _ (by omega)
    have HD2 := Lib.hid (fun W k u => def2_any N HFN.out x (by omega) m hm W k u)
    have HSx := Lib.hid (fun W k => space_any N (noT.set 0 x) false W k (by rw [used_1]; omega))
    rw [used_1] at HSx
    have HXs := Lib.hid (short_set noT_short 0 x (by omega))
    generalize hxs : x.size = n0 at *
    replace hxs := Lib.hid hxs
    generalize ht4 : bstr (([49, 56, 47] ++ fours m ++ [59, 49, 57, 47]) ++ fours 1) = t4 at *
    generalize bstr ([49, 56, 47] ++ fours m ++ [59, 49, 57, 47]) = t3 at *
    generalize bstr ([49, 56, 47] ++ fours m) = t2 at *
    generalize bstr (fours 1) = t1 at *
    clear ht4
    --#6
    go_wp2_with fail
    refine (HHm.out _).mono ?_
    rintro e w6 ⟨rfl, hb⟩
    have HB6 := Lib.hid (HB5.out.trans (hb.mono HB5.out.size))
    have HK6 := Lib.hid (HK5.out.next hb)
    clear hb
    go_wp2_with fail
    refine (HH1.out _).mono ?_
    rintro e w7 ⟨rfl, hb⟩
    have HB7 := Lib.hid (HB6.out.trans (hb.mono HB6.out.size))
    have HK7 := Lib.hid (HK6.out.next hb)
    clear hb
    have HD2n := Lib.hid (HD2.out w7 HK7.out (HU.out.next HB7.out))
    clear HD2
    --#7
    go_wp2_with fail
    refine HD2n.out.mono ?_
    rintro e w8 ⟨hc, hg⟩
    have HB8 := Lib.hid (HB7.out.trans (below_of_grown hg (HB7.out.size) (HBN.out)))
    clear hg HD2n A1 A2 A3
    rcases hc with ⟨hs8, rfl, T2, hk, hts⟩ | ⟨hs8, rfl, hk⟩
    · have HK8 := Lib.hid hk
      have HTs := Lib.hid hts
      have q3 : ((n0 : Int) + m + 1 ≤ 804) = True := eq_true (by omega)
      clear hk hts HSx HXs
      --#8
      go_upto_region 14 with fail
      clear q3 hw1 hw2 hw3
      have HT2s := HTs
      clear HTs
      --#9
      go_wp2_with fail
      refine (HHm.out _).mono ?_
      rintro e w9 ⟨rfl, hb⟩
      have HB9 := Lib.hid (HB8.out.trans (hb.mono HB8.out.size))
      have HK9 := Lib.hid (HK8.out.next hb)
      clear hb HHm HH1
      have HD3 := Lib.hid (def3_any N HFN.out T2 HT2s.out m hm w9 HK9.out (HU.out.next HB9.out))
      generalize bstr ([50, 48, 47] ++ fours m) = t5 at *
      generalize bstr (fours m) = tm at *
      go_wp2_with fail
      refine HD3.out.mono ?_
      rintro e w10 ⟨hc, hg⟩
      have HB10 := Lib.hid (HB9.out.trans (below_of_grown hg (HB9.out.size) (HBN.out)))
      clear hg HD3
      rcases hc with ⟨hm8, rfl, hk⟩ | ⟨hm8, rfl⟩
      · have HS := Lib.hid (space_any N (noT.set 3 (defW m)) false w10 hk (by rw [used_4, defW_size]; omega))
        rw [used_4, defW_size] at HS
        have q1 : ((m : Int) ≤ 804) = True := eq_true (by omega)
        have q2 : ((804 : Int) < m) = False := eq_false (by omega)
        clear hk
        --#10
        go_wp2_with fail
        refine HS.out.mono ?_
        rintro e w11 ⟨rfl, rfl⟩
        go_wp2_with fail
        go_ret
        exact ⟨rfl, HB10.out⟩
      · have q1 : ((m : Int) ≤ 804) = False := eq_false (by omega)
        have q2 : ((804 : Int) < m) = True := eq_true (by omega)
        --#11
        go_wp2_with fail
        go_ret
        exact ⟨rfl, HB10.out⟩
    · have HK8 := Lib.hid hk
      obtain ⟨T2, hT2⟩ : ∃ T2, T2 = noT.set 0 x := ⟨_, rfl⟩
      have HTs : Hid (ShortT T2) := Lib.hid (by rw [hT2]; exact HXs.out)
      have HS := Lib.hid (HSx.out w8 hk)
      rw [← hT2] at HK8
      replace hT2 := Lib.hid hT2
      have q3 : ((n0 : Int) + m + 1 ≤ 804) = False := eq_false (by omega)
      clear hk HSx HXs
      --#12
      go_wp2_with fail
      refine HS.out.mono ?_
      rintro e w9 ⟨rfl, rfl⟩
      go_upto_region 14 with fail
      clear q3 hw1 hw2 hw3 HS
      have HT2s := HTs
      clear HTs
      --#9
      go_wp2_with fail
      refine (HHm.out _).mono ?_
      rintro e w9 ⟨rfl, hb⟩
      have HB9 := Lib.hid (HB8.out.trans (hb.mono HB8.out.size))
      have HK9 := Lib.hid (HK8.out.next hb)
      clear hb HHm HH1
      have HD3 := Lib.hid (def3_any N HFN.out T2 HT2s.out m hm w9 HK9.out (HU.out.next HB9.out))
      generalize bstr ([50, 48, 47] ++ fours m) = t5 at *
      generalize bstr (fours m) = tm at *
      go_wp2_with fail
      refine HD3.out.mono ?_
      rintro e w10 ⟨hc, hg⟩
      have HB10 := Lib.hid (HB9.out.trans (below_of_grown hg (HB9.out.size) (HBN.out)))
      clear hg HD3
      rcases hc with ⟨hm8, rfl, hk⟩ | ⟨hm8, rfl⟩
      · have HS := Lib.hid (space_any N (noT.set 3 (defW m)) false w10 hk (by rw [used_4, defW_size]; omega))
        rw [used_4, defW_size] at HS
        have q1 : ((m : Int) ≤ 804) = True := eq_true (by omega)
        have q2 : ((804 : Int) < m) = False := eq_false (by omega)
        clear hk
        --#10
        go_wp2_with fail
        refine HS.out.mono ?_
        rintro e w11 ⟨rfl, rfl⟩
        go_wp2_with fail
        go_ret
        exact ⟨rfl, HB10.out⟩
      · have q1 : ((m : Int) ≤ 804) = False := eq_false (by omega)
        have q2 : ((804 : Int) < m) = True := eq_true (by omega)
        --#11
        go_wp2_with fail
        go_ret
        exact ⟨rfl, HB10.out⟩
  · obtain ⟨x, hx⟩ : ∃ x, x = (⟨#[]⟩ : ByteArray) := ⟨_, rfl⟩
    have hxz : (0 : Int) = (x.size : Int) := by rw [hx]; rfl
    rw [← hx] at hk
    have HK5 := Lib.hid hk
    have q0 : ((n : Int) ≤ 804) = False := eq_false (by omega)
    have hx8 : x.size ≤ 804 := by omega
    replace hxz := Lib.hid hxz
    clear hk hx
    go_upto_region 11 with fail
    clear q0 hn hn8
    --#5
    rw [hxz.out]
    have hw1 : IntKind.i64.wrap ((x.size : Int) + (m : Int)) = (x.size : Int) + m := IntWalk.i64_in _ (by omega)
    have hw2 : IntKind.i64.wrap ((x.size : Int) + (m : Int) + 1) = (x.size : Int) + m + 1 := IntWalk.i64_in _ (by omega)
    have hw3 : IntKind.i64.wrap (804 - (x.size : Int)) = 804 - (x.size : Int) := IntWalk.i64_in _ (by omega)
    have HD2 := Lib.hid (fun W k u => def2_any N HFN.out x (by omega) m hm W k u)
    have HSx := Lib.hid (fun W k => space_any N (noT.set 0 x) false W k (by rw [used_1]; omega))
    rw [used_1] at HSx
    have HXs := Lib.hid (short_set noT_short 0 x (by omega))
    generalize hxs : x.size = n0 at *
    replace hxs := Lib.hid hxs
    generalize ht4 : bstr (([49, 56, 47] ++ fours m ++ [59, 49, 57, 47]) ++ fours 1) = t4 at *
    generalize bstr ([49, 56, 47] ++ fours m ++ [59, 49, 57, 47]) = t3 at *
    generalize bstr ([49, 56, 47] ++ fours m) = t2 at *
    generalize bstr (fours 1) = t1 at *
    clear ht4
    --#6
    go_wp2_with fail
    refine (HHm.out _).mono ?_
    rintro e w6 ⟨rfl, hb⟩
    have HB6 := Lib.hid (HB5.out.trans (hb.mono HB5.out.size))
    have HK6 := Lib.hid (HK5.out.next hb)
    clear hb
    go_wp2_with fail
    refine (HH1.out _).mono ?_
    rintro e w7 ⟨rfl, hb⟩
    have HB7 := Lib.hid (HB6.out.trans (hb.mono HB6.out.size))
    have HK7 := Lib.hid (HK6.out.next hb)
    clear hb
    have HD2n := Lib.hid (HD2.out w7 HK7.out (HU.out.next HB7.out))
    clear HD2
    --#7
    go_wp2_with fail
    refine HD2n.out.mono ?_
    rintro e w8 ⟨hc, hg⟩
    have HB8 := Lib.hid (HB7.out.trans (below_of_grown hg (HB7.out.size) (HBN.out)))
    clear hg HD2n A1 A2 A3
    rcases hc with ⟨hs8, rfl, T2, hk, hts⟩ | ⟨hs8, rfl, hk⟩
    · have HK8 := Lib.hid hk
      have HTs := Lib.hid hts
      have q3 : ((n0 : Int) + m + 1 ≤ 804) = True := eq_true (by omega)
      clear hk hts HSx HXs
      --#8
      go_upto_region 14 with fail
      clear q3 hw1 hw2 hw3
      have HT2s := HTs
      clear HTs
      --#9
      go_wp2_with fail
      refine (HHm.out _).mono ?_
      rintro e w9 ⟨rfl, hb⟩
      have HB9 := Lib.hid (HB8.out.trans (hb.mono HB8.out.size))
      have HK9 := Lib.hid (HK8.out.next hb)
      clear hb HHm HH1
      have HD3 := Lib.hid (def3_any N HFN.out T2 HT2s.out m hm w9 HK9.out (HU.out.next HB9.out))
      generalize bstr ([50, 48, 47] ++ fours m) = t5 at *
      generalize bstr (fours m) = tm at *
      go_wp2_with fail
      refine HD3.out.mono ?_
      rintro e w10 ⟨hc, hg⟩
      have HB10 := Lib.hid (HB9.out.trans (below_of_grown hg (HB9.out.size) (HBN.out)))
      clear hg HD3
      rcases hc with ⟨hm8, rfl, hk⟩ | ⟨hm8, rfl⟩
      · have HS := Lib.hid (space_any N (noT.set 3 (defW m)) false w10 hk (by rw [used_4, defW_size]; omega))
        rw [used_4, defW_size] at HS
        have q1 : ((m : Int) ≤ 804) = True := eq_true (by omega)
        have q2 : ((804 : Int) < m) = False := eq_false (by omega)
        clear hk
        --#10
        go_wp2_with fail
        refine HS.out.mono ?_
        rintro e w11 ⟨rfl, rfl⟩
        go_wp2_with fail
        go_ret
        exact ⟨rfl, HB10.out⟩
      · have q1 : ((m : Int) ≤ 804) = False := eq_false (by omega)
        have q2 : ((804 : Int) < m) = True := eq_true (by omega)
        --#11
        go_wp2_with fail
        go_ret
        exact ⟨rfl, HB10.out⟩
    · have HK8 := Lib.hid hk
      obtain ⟨T2, hT2⟩ : ∃ T2, T2 = noT.set 0 x := ⟨_, rfl⟩
      have HTs : Hid (ShortT T2) := Lib.hid (by rw [hT2]; exact HXs.out)
      have HS := Lib.hid (HSx.out w8 hk)
      rw [← hT2] at HK8
      replace hT2 := Lib.hid hT2
      have q3 : ((n0 : Int) + m + 1 ≤ 804) = False := eq_false (by omega)
      clear hk HSx HXs
      --#12
      go_wp2_with fail
      refine HS.out.mono ?_
      rintro e w9 ⟨rfl, rfl⟩
      go_upto_region 14 with fail
      clear q3 hw1 hw2 hw3 HS
      have HT2s := HTs
      clear HTs
      --#9
      go_wp2_with fail
      refine (HHm.out _).mono ?_
      rintro e w9 ⟨rfl, hb⟩
      have HB9 := Lib.hid (HB8.out.trans (hb.mono HB8.out.size))
      have HK9 := Lib.hid (HK8.out.next hb)
      clear hb HHm HH1
      have HD3 := Lib.hid (def3_any N HFN.out T2 HT2s.out m hm w9 HK9.out (HU.out.next HB9.out))
      generalize bstr ([50, 48, 47] ++ fours m) = t5 at *
      generalize bstr (fours m) = tm at *
      go_wp2_with fail
      refine HD3.out.mono ?_
      rintro e w10 ⟨hc, hg⟩
      have HB10 := Lib.hid (HB9.out.trans (below_of_grown hg (HB9.out.size) (HBN.out)))
      clear hg HD3
      rcases hc with ⟨hm8, rfl, hk⟩ | ⟨hm8, rfl⟩
      · have HS := Lib.hid (space_any N (noT.set 3 (defW m)) false w10 hk (by rw [used_4, defW_size]; omega))
        rw [used_4, defW_size] at HS
        have q1 : ((m : Int) ≤ 804) = True := eq_true (by omega)
        have q2 : ((804 : Int) < m) = False := eq_false (by omega)
        clear hk
        --#10
        go_wp2_with fail
        refine HS.out.mono ?_
        rintro e w11 ⟨rfl, rfl⟩
        go_wp2_with fail
        go_ret
        exact ⟨rfl, HB10.out⟩
      · have q1 : ((m : Int) ≤ 804) = False := eq_false (by omega)
        have q2 : ((804 : Int) < m) = True := eq_true (by omega)
        --#11
        go_wp2_with fail
        go_ret
        exact ⟨rfl, HB10.out⟩

set_option maxRecDepth 100000 in
/-- What the walk gives, for every argument and every world that holds the table. -/
theorem contract (H : Type) (enc : TypeId × Value → H) (W : World) (base : Nat) (args : Array Value) (ds gs : List (DataW H)) (before : List MemPlace)
    (hval : ∀ (j : Nat) t v, Tryd.f4.params[j]? = some t → args[j]? = some v → Value.okWide Tryd.prog W .any base t v)
    (hW : DataW.Whole enc Tryd.prog Tryd.f4.params.toList Rows.udkFullSpec.vars false W args.toList ds gs before) (hL : laidMetH Tryd.prog Rows.udkFullRow.laid W)
    (hreach : (DataW.weightsEach Tryd.prog (Tryd.f4.params.toList ++ []) (ds ++ gs)).all (· ≤ reachBytes) = true) :
    Calls Tryd.prog 4 args W fun e W' => ∃ v, e = .returned v ∧ Rows.udkFullSpec.post enc Tryd.prog Tryd.f4 false true false false W args v W' := by
  have hW' := hW
  have ht := envU hL
  have hlts : ∀ x ∈ before, x.block < W.heap.size := fun x hx => hW'.lt x hx
  obtain ⟨p, q, hA0, hV, rfl, hfz, hnd⟩ := hW
  have hA : DataW.TrodAll enc Tryd.prog W 0 (fun _ => true) true Tryd.f4.params.toList args.toList ds p := hA0
  rw [Tryd.params4] at hA hval hreach
  obtain ⟨v0, vs0, d0, ds0, pp0, qq0, hargs, rfl, rfl, h0, rr0⟩ := trodAll_cons hA
  obtain ⟨v1, vs1, d1, ds1, pp1, qq1, rfl, rfl, rfl, h1, rr1⟩ := trodAll_cons rr0
  obtain ⟨rfl, rfl, rfl⟩ := trodAll_nil rr1
  obtain rfl : args = #[v0, v1] := by cases args; simp_all
  obtain ⟨rfl, rfl⟩ := trodVars_none hV
  obtain ⟨a0, rfl, rfl, rfl, w0⟩ := open_int Tryd.underlying3 (hval 0 3 v0 rfl rfl) h0
  obtain ⟨a1, rfl, rfl, rfl, w1⟩ := open_int Tryd.underlying3 (hval 1 3 v1 rfl rfl) h1
  clear hA0
  refine (walk a0 a1 W ht).mono fun e W' ⟨he, hb⟩ => ?_
  subst he
  exact ⟨_, rfl, post_law laidOut (by kernel_rfl) (by kernel_rfl) rfl hW' rfl hb⟩

set_option maxRecDepth 100000 in
theorem laid_met (os : Os) : laidMet Tryd.prog Rows.udkFullRow.laid ((laidWorldU os).forCall (fun _ _ => 0) ⟨#[], #[Value.int .i64 0, Value.int .i64 0], []⟩).memory :=
  laid_metU os _
set_option maxRecDepth 100000 in
theorem reads (os : Os) {H : Type} (enc : TypeId × Value → H) : ∃ places, DataW.whole enc Tryd.prog ((laidWorldU os).forCall (fun _ _ => 0) ⟨#[], #[Value.int .i64 0, Value.int .i64 0], []⟩).memory Tryd.f4.params.toList Rows.udkFullSpec.vars false (#[Value.int .i64 0, Value.int .i64 0] : Array Value).toList 8 = some ([.lit (.int .i64 0), .lit (.int .i64 0)], [], places) :=
  ⟨[], by kernel_rfl⟩

set_option maxRecDepth 100000 in
theorem lifted (os : Os) (started : os.Started) (H : Type) (enc : TypeId × Value → H) (F : Stop.Interp) :
    ReturnsInHanded {} Tryd.checked os 4 .any ((OpenSpec.ofChange Rows.udkFullSpec).preRow enc Tryd.prog Tryd.f4 Rows.udkFullRow.domain false Rows.udkFullRow.laid) (((OpenSpec.ofChange Rows.udkFullSpec).at F).post enc Tryd.prog Tryd.f4 false true false false) := by
  obtain ⟨places, hx⟩ := reads os enc
  refine returnsInHanded_of_row (C := Tryd.checked) (s := OpenSpec.ofChange Rows.udkFullSpec) own started (by kernel_rfl) Tryd.func4
    (witness_row_atRef (enc := enc) (C := Tryd.checked) false (laidWorldU os) #[Value.int .i64 0, Value.int .i64 0] rfl (by kernel_rfl) (by kernel_rfl) (by kernel_rfl)
      (OpenSpec.preRow_of_cond 8 hx (by kernel_rfl) (fun k hk => by cases hk) (by kernel_rfl) (laid_met os))) ?_
  intro W base args ds gs before hval hW _ _ hreach hL _ _
  exact contract H enc W base args ds gs before hval hW hL hreach

theorem said : Rows.UdkFullSaid :=
  OpenClaim.holds_of_cond 4 Tryd.f4 rfl rfl rfl rfl rfl rfl rfl ⟨rfl, rfl, rfl, rfl, rfl⟩ rfl rfl rfl rfl rfl (by kernel_rfl) Tryd.func4 (by kernel_rfl)
    (of_decide_eq_true (by kernel_rfl)) (by unfold Func.isWrapper; first | (rw [if_pos (by decide +kernel)]; kernel_rfl) | (rw [if_neg (by decide +kernel)]; exact ⟨rfl, rfl⟩))
    (fun os started H enc _ F => by rw [OpenClaim.pre_eq_preRow]; exact lifted os started H enc F)

theorem plain (f : FuncId) (fn : Func) (hf : Tryd.pinned.checked.prog.funcNamed "phosphor/phosphorlaw21.UdkFull" = some f) (hfn : Tryd.pinned.checked.prog.funcs[f]? = some fn) :
    true = Tryd.pinned.checked.prog.looks [] ∧ ∀ (j : Nat) t, fn.params[j]? = some t → Tryd.pinned.checked.prog.wantsStandIn t = false := by
  obtain rfl : f = 4 := Option.some.inj ((show Tryd.prog.funcNamed "phosphor/phosphorlaw21.UdkFull" = some 4 by kernel_rfl).symm.trans hf) |>.symm
  obtain rfl : fn = Tryd.f4 := (Option.some.inj (Tryd.func4.symm.trans hfn)).symm
  refine ⟨by kernel_rfl, fun j t ht => ?_⟩
  rw [Tryd.params4] at ht
  have hm : t ∈ [3, 3] := by simpa using Array.mem_of_getElem? ht
  have hall : ([3, 3].all fun u => !Tryd.prog.wantsStandIn u) = true := by kernel_rfl
  exact (show Tryd.prog.wantsStandIn t = false by simpa using List.all_eq_true.1 hall t hm)

/-- The card. -/
theorem card : Rows.UdkFullCardSaid :=
  Claim7.holds_tied_plain_at .later [] _ _ _ _ said (fun _ h => by cases h) (by kernel_rfl) (fun _ h => by cases h) udkFull_row_tie rfl ⟨rfl, rfl⟩ (by kernel_rfl) rfl plain (by kernel_rfl)
#print axioms card
end Go.Proofs.YtlhabooeeohniaaDoor.udkFull

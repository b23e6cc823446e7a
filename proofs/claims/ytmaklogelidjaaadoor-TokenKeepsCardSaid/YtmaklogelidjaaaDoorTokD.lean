/-
  Tokens: are two alike, for the reference?
-/
import Derived.Test.YtmaklogelidjaaaDoorTokC
import Derived.Test.YtmaklogelidjaaaDoorSame
import Derived.Deep.DeepCutAuto
namespace Go.Proofs.YtmaklogelidjaaaDoor

open Go Go.RowKit


set_option maxRecDepth 100000 in
set_option maxHeartbeats 4000000 in
theorem refSame_any (k1 c1 m1 : Int) (P1 : Option Addr) (ps1 : List Int) (pc1 : Nat) (s1 : ByteArray) (D1 : Option Addr) (dt1 : List Nat) (dc1 : Nat) (k2 c2 m2 : Int) (P2 : Option Addr) (ps2 : List Int) (pc2 : Nat) (s2 : ByteArray) (D2 : Option Addr) (dt2 : List Nat) (dc2 : Nat)
    (hp1 : ps1.length ≤ maxLen) (hp2 : ps2.length ≤ maxLen) (w : World) (hr1 : RInts w P1 ps1) (hr2 : RInts w P2 ps2) (hd1 : RByt w D1 dt1) (hd2 : RByt w D2 dt2) :
    Calls Tryd.prog 10 #[.agg (tkC k1 c1 m1 P1 ps1 pc1 s1 D1 dt1 dc1), .agg (tkC k2 c2 m2 P2 ps2 pc2 s2 D2 dt2 dc2)] w fun e w' => e = .returned (.bool (sameQ k1 c1 m1 ps1 s1 dt1 k2 c2 m2 ps2 s2 dt2)) ∧ Below w.heap.size w w' := by
  have HE := Lib.hid (fun W h g => sameInts_any P1 P2 pc1 pc2 ps1 ps2 hp1 hp2 W h g)
  have H3 := Lib.hid (str_eq (a := bstr dt1) (b := bstr dt2))
  have HC1 := Lib.hid (fun W h => conv_by (A := D1) (ns := dt1) (W := W) h dc1); have HC2 := Lib.hid (fun W h => conv_by (A := D2) (ns := dt2) (W := W) h dc2)
  have HR := Lib.hid (And.intro (And.intro hr1 hr2) (And.intro hd1 hd2))
  have HK := Lib.hid (KW.start w 25 (tkC k1 c1 m1 P1 ps1 pc1 s1 D1 dt1 dc1) (tkC k2 c2 m2 P2 ps2 pc2 s2 D2 dt2 dc2))
  clear hr1 hr2 hd1 hd2 hp1 hp2
  unfold sameQ
  unfold tkC at *
  generalize (ps1 == ps2) = q5 at *
  generalize decide (bstr dt1 = bstr dt2) = q6 at *
  generalize bstr dt1 = x1 at *
  generalize bstr dt2 = x2 at *
  rcases q0 : (k1 == k2) with _ | _
  · go_enter Tryd.func10, Tryd.ntmps10
    go_upto_region 1 with fail
    generalize (w.alloc (.cells #[.int .i64 k1, .int .u8 c1, .int .u8 m1, .slice P1 ps1.length pc1, .string s1, .slice D1 dt1.length dc1] 25)).alloc (.cells #[.int .i64 k2, .int .u8 c2, .int .u8 m2, .slice P2 ps2.length pc2, .string s2, .slice D2 dt2.length dc2] 25) = w1 at *
    obtain ⟨a0, a1, a2, a3, a4, a5⟩ := six HK.out.1
    obtain ⟨b0, b1, b2, b3, b4, b5⟩ := six HK.out.2.1
    go_wp2_with fail
    go_ret
    exact ⟨rfl, HK.out.2.2⟩
  · skip
    rcases q1 : (c1 == c2) with _ | _
    · go_enter Tryd.func10, Tryd.ntmps10
      go_upto_region 1 with fail
      generalize (w.alloc (.cells #[.int .i64 k1, .int .u8 c1, .int .u8 m1, .slice P1 ps1.length pc1, .string s1, .slice D1 dt1.length dc1] 25)).alloc (.cells #[.int .i64 k2, .int .u8 c2, .int .u8 m2, .slice P2 ps2.length pc2, .string s2, .slice D2 dt2.length dc2] 25) = w1 at *
      obtain ⟨a0, a1, a2, a3, a4, a5⟩ := six HK.out.1
      obtain ⟨b0, b1, b2, b3, b4, b5⟩ := six HK.out.2.1
      go_wp2_with fail
      go_ret
      exact ⟨rfl, HK.out.2.2⟩
    · skip
      rcases q2 : (m1 == m2) with _ | _
      · go_enter Tryd.func10, Tryd.ntmps10
        go_upto_region 1 with fail
        generalize (w.alloc (.cells #[.int .i64 k1, .int .u8 c1, .int .u8 m1, .slice P1 ps1.length pc1, .string s1, .slice D1 dt1.length dc1] 25)).alloc (.cells #[.int .i64 k2, .int .u8 c2, .int .u8 m2, .slice P2 ps2.length pc2, .string s2, .slice D2 dt2.length dc2] 25) = w1 at *
        obtain ⟨a0, a1, a2, a3, a4, a5⟩ := six HK.out.1
        obtain ⟨b0, b1, b2, b3, b4, b5⟩ := six HK.out.2.1
        go_wp2_with fail
        go_ret
        exact ⟨rfl, HK.out.2.2⟩
      · skip
        rcases q3 : (s1.toList == s2.toList) with _ | _
        · go_enter Tryd.func10, Tryd.ntmps10
          go_upto_region 1 with fail
          generalize (w.alloc (.cells #[.int .i64 k1, .int .u8 c1, .int .u8 m1, .slice P1 ps1.length pc1, .string s1, .slice D1 dt1.length dc1] 25)).alloc (.cells #[.int .i64 k2, .int .u8 c2, .int .u8 m2, .slice P2 ps2.length pc2, .string s2, .slice D2 dt2.length dc2] 25) = w1 at *
          obtain ⟨a0, a1, a2, a3, a4, a5⟩ := six HK.out.1
          obtain ⟨b0, b1, b2, b3, b4, b5⟩ := six HK.out.2.1
          go_wp2_with fail
          go_ret
          exact ⟨rfl, HK.out.2.2⟩
        · skip
          go_enter Tryd.func10, Tryd.ntmps10
          go_upto_region 1 with fail
          generalize (w.alloc (.cells #[.int .i64 k1, .int .u8 c1, .int .u8 m1, .slice P1 ps1.length pc1, .string s1, .slice D1 dt1.length dc1] 25)).alloc (.cells #[.int .i64 k2, .int .u8 c2, .int .u8 m2, .slice P2 ps2.length pc2, .string s2, .slice D2 dt2.length dc2] 25) = w1 at *
          obtain ⟨a0, a1, a2, a3, a4, a5⟩ := six HK.out.1
          obtain ⟨b0, b1, b2, b3, b4, b5⟩ := six HK.out.2.1
          go_wp2_with fail
          refine (HE.out _ (HR.out.1.1.next HK.out.2.2) (HR.out.1.2.next HK.out.2.2)).mono ?_
          rintro e w2 ⟨rfl, hb2⟩
          have HK2 := Lib.hid (HK.out.next hb2)
          clear hb2 a0 a1 a2 a3 a4 a5 b0 b1 b2 b3 b4 b5 HK HE
          obtain ⟨a0, a1, a2, a3, a4, a5⟩ := six HK2.out.1
          obtain ⟨b0, b1, b2, b3, b4, b5⟩ := six HK2.out.2.1
          rcases q5 with _ | _
          · go_wp2_with fail
            go_ret
            exact ⟨rfl, HK2.out.2.2⟩
          · have hc1 := HC1.out _ (HR.out.2.1.next HK2.out.2.2)
            have hc2 := HC2.out _ (HR.out.2.2.next HK2.out.2.2)
            go_wp2_with fail
            go_ret
            exact ⟨ret_bool H3.out, HK2.out.2.2⟩
end Go.Proofs.YtmaklogelidjaaaDoor

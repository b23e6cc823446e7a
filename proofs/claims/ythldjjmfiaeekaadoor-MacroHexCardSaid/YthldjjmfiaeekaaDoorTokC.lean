/-
  Tokens: are two alike?
-/
import Derived.Test.YthldjjmfiaeekaaDoorTokB
import Derived.Deep.DeepCutAuto
namespace Go.Proofs.YthldjjmfiaeekaaDoor

open Go Go.RowKit

/-- The parts of a token in memory. -/
def tkC (k c m : Int) (P : Option Addr) (ps : List Int) (pc : Nat) (s : ByteArray) (D : Option Addr) (dt : List Nat) (dc : Nat) : Array Value := #[.int .i64 k, .int .u8 c, .int .u8 m, .slice P ps.length pc, .string s, .slice D dt.length dc]
/-- What is known with two boxes in memory. -/
def KW (w : World) (T : TypeId) (x y : Array Value) (W : World) : Prop := Blk W w.heap.size T x ∧ Blk W (w.heap.size + 1) T y ∧ Below w.heap.size w W
theorem KW.start (w : World) (T : TypeId) (x y : Array Value) : KW w T x y ((w.alloc (.cells x T)).alloc (.cells y T)) :=
  ⟨(Blk.new w T x).alloc _, by have := Blk.new (w.alloc (.cells x T)) T y; simpa using this, ((Below.refl _ _).alloc (Nat.le_refl _) _).alloc (by simp) _⟩
theorem KW.next {w W W' : World} {T : TypeId} {x y : Array Value} (h : KW w T x y W) (hb : Below W.heap.size W W') : KW w T x y W' := ⟨h.1.next hb, h.2.1.next hb, h.2.2.trans (hb.mono h.2.2.size)⟩
def sameQ (k1 c1 m1 : Int) (ps1 : List Int) (s1 : ByteArray) (dt1 : List Nat) (k2 c2 m2 : Int) (ps2 : List Int) (s2 : ByteArray) (dt2 : List Nat) : Bool :=
  (k1 == k2) && ((c1 == c2) && ((m1 == m2) && ((s1.toList == s2.toList) && ((ps1 == ps2) && decide (bstr dt1 = bstr dt2)))))
set_option maxRecDepth 100000 in
set_option maxHeartbeats 4000000 in
theorem same_any (k1 c1 m1 : Int) (P1 : Option Addr) (ps1 : List Int) (pc1 : Nat) (s1 : ByteArray) (D1 : Option Addr) (dt1 : List Nat) (dc1 : Nat) (k2 c2 m2 : Int) (P2 : Option Addr) (ps2 : List Int) (pc2 : Nat) (s2 : ByteArray) (D2 : Option Addr) (dt2 : List Nat) (dc2 : Nat)
    (hp1 : ps1.length ≤ maxLen) (hp2 : ps2.length ≤ maxLen) (w : World) (hr1 : RInts w P1 ps1) (hr2 : RInts w P2 ps2) (hd1 : RByt w D1 dt1) (hd2 : RByt w D2 dt2) :
    Calls Tryd.prog 131 #[.agg (tkC k1 c1 m1 P1 ps1 pc1 s1 D1 dt1 dc1), .agg (tkC k2 c2 m2 P2 ps2 pc2 s2 D2 dt2 dc2)] w fun e w' => e = .returned (.bool (sameQ k1 c1 m1 ps1 s1 dt1 k2 c2 m2 ps2 s2 dt2)) ∧ Below w.heap.size w w' := by
  have HE := Lib.hid (fun W h g => equalI_any P1 P2 pc1 pc2 ps1 ps2 hp1 hp2 W h g)
  have HB := Lib.hid (fun W h g => bytesEqual_any D1 D2 dc1 dc2 dt1 dt2 W h g)
  have HR := Lib.hid (And.intro (And.intro hr1 hr2) (And.intro hd1 hd2))
  have HK := Lib.hid (KW.start w 102 (tkC k1 c1 m1 P1 ps1 pc1 s1 D1 dt1 dc1) (tkC k2 c2 m2 P2 ps2 pc2 s2 D2 dt2 dc2))
  clear hr1 hr2 hd1 hd2 hp1 hp2
  unfold sameQ
  unfold tkC at *
  generalize (ps1 == ps2) = q5 at *
  generalize decide (bstr dt1 = bstr dt2) = q6 at *
  rcases q0 : (k1 == k2) with _ | _
  · go_enter Tryd.func131, Tryd.ntmps131
    go_upto_region 1 with fail
    generalize (w.alloc (.cells #[.int .i64 k1, .int .u8 c1, .int .u8 m1, .slice P1 ps1.length pc1, .string s1, .slice D1 dt1.length dc1] 102)).alloc (.cells #[.int .i64 k2, .int .u8 c2, .int .u8 m2, .slice P2 ps2.length pc2, .string s2, .slice D2 dt2.length dc2] 102) = w1 at *
    obtain ⟨a0, a1, a2, a3, a4, a5⟩ := six HK.out.1
    obtain ⟨b0, b1, b2, b3, b4, b5⟩ := six HK.out.2.1
    go_wp2_with fail
    go_ret
    exact ⟨rfl, HK.out.2.2⟩
  · skip
    rcases q1 : (c1 == c2) with _ | _
    · go_enter Tryd.func131, Tryd.ntmps131
      go_upto_region 1 with fail
      generalize (w.alloc (.cells #[.int .i64 k1, .int .u8 c1, .int .u8 m1, .slice P1 ps1.length pc1, .string s1, .slice D1 dt1.length dc1] 102)).alloc (.cells #[.int .i64 k2, .int .u8 c2, .int .u8 m2, .slice P2 ps2.length pc2, .string s2, .slice D2 dt2.length dc2] 102) = w1 at *
      obtain ⟨a0, a1, a2, a3, a4, a5⟩ := six HK.out.1
      obtain ⟨b0, b1, b2, b3, b4, b5⟩ := six HK.out.2.1
      go_wp2_with fail
      go_ret
      exact ⟨rfl, HK.out.2.2⟩
    · skip
      rcases q2 : (m1 == m2) with _ | _
      · go_enter Tryd.func131, Tryd.ntmps131
        go_upto_region 1 with fail
        generalize (w.alloc (.cells #[.int .i64 k1, .int .u8 c1, .int .u8 m1, .slice P1 ps1.length pc1, .string s1, .slice D1 dt1.length dc1] 102)).alloc (.cells #[.int .i64 k2, .int .u8 c2, .int .u8 m2, .slice P2 ps2.length pc2, .string s2, .slice D2 dt2.length dc2] 102) = w1 at *
        obtain ⟨a0, a1, a2, a3, a4, a5⟩ := six HK.out.1
        obtain ⟨b0, b1, b2, b3, b4, b5⟩ := six HK.out.2.1
        go_wp2_with fail
        go_ret
        exact ⟨rfl, HK.out.2.2⟩
      · skip
        rcases q3 : (s1.toList == s2.toList) with _ | _
        · go_enter Tryd.func131, Tryd.ntmps131
          go_upto_region 1 with fail
          generalize (w.alloc (.cells #[.int .i64 k1, .int .u8 c1, .int .u8 m1, .slice P1 ps1.length pc1, .string s1, .slice D1 dt1.length dc1] 102)).alloc (.cells #[.int .i64 k2, .int .u8 c2, .int .u8 m2, .slice P2 ps2.length pc2, .string s2, .slice D2 dt2.length dc2] 102) = w1 at *
          obtain ⟨a0, a1, a2, a3, a4, a5⟩ := six HK.out.1
          obtain ⟨b0, b1, b2, b3, b4, b5⟩ := six HK.out.2.1
          go_wp2_with fail
          go_ret
          exact ⟨rfl, HK.out.2.2⟩
        · skip
          go_enter Tryd.func131, Tryd.ntmps131
          go_upto_region 1 with fail
          generalize (w.alloc (.cells #[.int .i64 k1, .int .u8 c1, .int .u8 m1, .slice P1 ps1.length pc1, .string s1, .slice D1 dt1.length dc1] 102)).alloc (.cells #[.int .i64 k2, .int .u8 c2, .int .u8 m2, .slice P2 ps2.length pc2, .string s2, .slice D2 dt2.length dc2] 102) = w1 at *
          obtain ⟨a0, a1, a2, a3, a4, a5⟩ := six HK.out.1
          obtain ⟨b0, b1, b2, b3, b4, b5⟩ := six HK.out.2.1
          go_wp2_with fail
          refine (HE.out _ (HR.out.1.1.next HK.out.2.2) (HR.out.1.2.next HK.out.2.2)).mono ?_
          rintro e w2 ⟨rfl, hb2⟩
          have HK2 := Lib.hid (HK.out.next hb2)
          clear hb2 a0 a1 a2 a3 a4 a5 b0 b1 b2 b3 b4 b5 HK HE
          obtain ⟨a0, a1, a2, a3, a4, a5⟩ := six HK2.out.1
          obtain ⟨b0, b1, b2, b3, b4, b5⟩ := six HK2.out.2.1
          rcases q5 with _ | _
          · go_wp2_with fail
            go_ret
            exact ⟨rfl, HK2.out.2.2⟩
          · go_wp2_with fail
            refine (HB.out _ (HR.out.2.1.next HK2.out.2.2) (HR.out.2.2.next HK2.out.2.2)).mono ?_
            rintro e w3 ⟨rfl, rfl⟩
            go_wp2_with fail
            go_ret
            exact ⟨rfl, HK2.out.2.2⟩
end Go.Proofs.YthldjjmfiaeekaaDoor

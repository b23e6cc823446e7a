/-
  Tokens: what one is in memory; the small calls.
  Tokens: lists searched and held against each other.
  Tokens: are two alike?
  Tokens: are two alike, for the reference?
  Tokens: is nothing too great, is a code one of its kind, are there such bytes alone as may be?
  Tokens: are there such bytes alone as may be, is all zero that the kind doesn't use, can it be?
  Tokens: can it be?
-/
import Derived.Test.YtpiliicphoacfaaParL
import Derived.Test.YtpiliicphoacfaaMixE
import Derived.Test.YtpiliicphoacfaaKit3
import Derived.Laws.BytesArg
import Derived.Deep.DeepCutAuto
import Derived.Test.YtpiliicphoacfaaSame
import Derived.Lib.Bytealg
import Derived.Lib.Strings
import Derived.Laws.Externs
import Derived.Laws.Strings3
namespace Go.Proofs.Ytpiliicphoacfaa

open Go Go.RowKit

/-- A slice of bytes that reads as ns. -/
def RByt (W : World) (A : Option Addr) (ns : List Nat) : Prop := Reads W W.heap.size 1 A ns.length (ns.map fun (n : Nat) => Value.int .u8 (n : Int))
theorem RByt.next {w w' : World} {A : Option Addr} {ns : List Nat} (h : RByt w A ns) (hb : Below w.heap.size w w') : RByt w' A ns := (Reads.below h hb).more hb.size
theorem RByt.at_ {w : World} {A : Option Addr} {ns : List Nat} (h : RByt w A ns) {k : Nat} (hk : k < ns.length) :
    ∃ ad, A = some ad ∧ ad.block < w.heap.size ∧ w.cell? (ad.add k) = some (.int .u8 (ns[k] : Int)) := by
  obtain ⟨ad, u, e, hb, hu, hc⟩ := Reads.at_ h hk
  refine ⟨ad, e, hb, ?_⟩
  rw [hc, ← hu, List.getElem?_map, List.getElem?_eq_getElem hk]
  rfl
/-- A token, as its parts. -/
structure Tok where
  kd : Int
  cd : Nat
  mr : Nat
  ps : List Int
  it : ByteArray
  dt : List Nat
def Tok.cs (t : Tok) (A : Option Addr) (c : Nat) (B : Option Addr) (d : Nat) : Array Value := #[.int .i64 t.kd, .int .u8 (t.cd : Int), .int .u8 (t.mr : Int), .slice A t.ps.length c, .string t.it, .slice B t.dt.length d]
structure Tok.ok (t : Tok) : Prop where
  cd : t.cd < 256
  mr : t.mr < 256
  ps : t.ps.length ≤ maxLen
  it : t.it.size ≤ maxLen
  dt : t.dt.length ≤ maxLen
  by_ : ∀ n ∈ t.dt, n < 256
theorem six {w : World} {g : Nat} {T : TypeId} {v0 v1 v2 v3 v4 v5 : Value} (h : Blk w g T #[v0, v1, v2, v3, v4, v5]) :
    w.cell? ⟨g, 0, none⟩ = some v0 ∧ w.cell? ⟨g, 1, none⟩ = some v1 ∧ w.cell? ⟨g, 2, none⟩ = some v2 ∧ w.cell? ⟨g, 3, none⟩ = some v3 ∧ w.cell? ⟨g, 4, none⟩ = some v4 ∧ w.cell? ⟨g, 5, none⟩ = some v5 :=
  ⟨h.cell 0, h.cell 1, h.cell 2, h.cell 3, h.cell 4, h.cell 5⟩
theorem six_fr {w : World} {g : Nat} {T : TypeId} {cs : Array Value} (h : Blk w g T cs) :
    w.frozen? ⟨g, 0, none⟩ = false ∧ w.frozen? ⟨g, 1, none⟩ = false ∧ w.frozen? ⟨g, 2, none⟩ = false ∧ w.frozen? ⟨g, 3, none⟩ = false ∧ w.frozen? ⟨g, 4, none⟩ = false ∧ w.frozen? ⟨g, 5, none⟩ = false :=
  ⟨h.frozen 0, h.frozen 1, h.frozen 2, h.frozen 3, h.frozen 4, h.frozen 5⟩
def amongB (n lo hi : Nat) : Bool := decide (lo ≤ n) && decide (n ≤ hi)

def outB (n : Int) : Bool := n != clipP n 0 65535

def noDataB (n : Nat) : Bool := !amongB n 8 13 && (!amongB n 32 126 && decide (n < 160))

end Go.Proofs.Ytpiliicphoacfaa

namespace Go.Proofs.Ytpiliicphoacfaa

open Go Go.RowKit

def bstr (ns : List Nat) : ByteArray := strOfNums (ns.map fun (n : Nat) => (n : Int))
theorem bstr_list (ns : List Nat) : (bstr ns).data.toList = ns.map UInt8.ofNat := by
  unfold bstr
  rw [strOfNums_data, List.map_map]
  apply List.map_congr_left
  intro n _
  simp
theorem bstr_size (ns : List Nat) : (bstr ns).size = ns.length := by
  unfold bstr
  rw [strOfNums_size, List.length_map]
theorem bstr_inj {ns ms : List Nat} (h1 : ∀ n ∈ ns, n < 256) (h2 : ∀ n ∈ ms, n < 256) (h : bstr ns = bstr ms) : ns = ms := by
  have e : ns.map UInt8.ofNat = ms.map UInt8.ofNat := by rw [← bstr_list, ← bstr_list, h]
  have k : ∀ l : List Nat, (∀ n ∈ l, n < 256) → (l.map UInt8.ofNat).map UInt8.toNat = l := by
    intro l hl
    rw [List.map_map]
    conv => rhs; rw [← List.map_id l]
    apply List.map_congr_left
    intro n hn
    have := hl n hn
    simp
    omega
  rw [← k ns h1, ← k ms h2, e]
theorem conv_by {W : World} {A : Option Addr} {ns : List Nat} (h : RByt W A ns) (c : Nat) : (convert 22 9 (.slice A ns.length c)).run Try.prog W = .ok (.string (bstr ns)) W := by
  rcases Nat.eq_zero_or_pos ns.length with hz | hp
  · rw [hz]
    obtain rfl : ns = [] := List.length_eq_zero_iff.1 hz
    rw [run_convert_bytes_string W _ _ 5 A 0 c Try.underlying22 Try.underlying5 Try.underlying9]
    cases A with
    | none =>
      have := run_convert_bytes_nil (P := Try.prog) W 22 5 Try.underlying22 Try.underlying5 0 c 9 Try.underlying9
      rw [run_convert_bytes_string W _ _ 5 none 0 c Try.underlying22 Try.underlying5 Try.underlying9] at this
      exact this
    | some a =>
      rw [run_bytesToString W a 0 c [] (by
        have := run_loadCells_list (P := Try.prog) W a [] (fun j v hj => by simp at hj)
        simpa using this)]
      rfl
  · obtain ⟨ad, rfl, _, hc⟩ := h.2 hp
    rw [run_convert_bytes_string W _ _ 5 (some ad) ns.length c Try.underlying22 Try.underlying5 Try.underlying9]
    have hl : (loadCells ad ns.length).run Try.prog W = .ok ((ns.map fun (n : Nat) => (n : Int)).map (Value.int .u8)).toArray W := by
      have := run_loadCells_list (P := Try.prog) W ad (ns.map fun (n : Nat) => Value.int .u8 (n : Int)) hc
      rw [List.map_map]
      rw [List.length_map] at this
      exact this
    rw [run_bytesToString W ad ns.length c _ hl, foldl_push_bytes]
    simp [bstr, strOfNums, ByteArray.empty, ByteArray.emptyWithCapacity]
    rfl
theorem str_eq {a b : ByteArray} : (a.toList == b.toList) = decide (a = b) := by
  rw [Bool.eq_iff_iff, beq_iff_eq, decide_eq_true_iff, ByteArray.toList_eq, ByteArray.toList_eq]
  constructor
  · intro h
    exact ByteArray.ext (Array.ext' h)
  · rintro rfl
    rfl
set_option maxHeartbeats 1000000 in
theorem bytesEqual_any (A B : Option Addr) (c d : Nat) (ns ms : List Nat) (w : World) (hr : RByt w A ns) (hs : RByt w B ms) :
    Calls Try.prog 29 #[.slice A ns.length c, .slice B ms.length d] w fun e w' => e = .returned (.bool (decide (bstr ns = bstr ms))) ∧ w = w' := by
  have h1 := conv_by hr c
  have h2 := conv_by hs d
  have H3 := Lib.hid (str_eq (a := bstr ns) (b := bstr ms))
  generalize decide (bstr ns = bstr ms) = q at *
  generalize bstr ns = s at *
  generalize bstr ms = t at *
  clear hr hs
  go_enter Try.func29, Try.ntmps29
  go_wp2_with fail
  go_ret
  exact ⟨ret_bool H3.out, rfl⟩




set_option maxHeartbeats 800000 in
theorem equalI_any (A B : Option Addr) (c d : Nat) (ns ms : List Int) (hn : ns.length ≤ maxLen) (hm : ms.length ≤ maxLen) (w : World) (hr : RInts w A ns) (hs : RInts w B ms) :
    Calls Try.prog 28 #[.slice A ns.length c, .slice B ms.length d] w fun e w' => e = .returned (.bool (ns == ms)) ∧ Below w.heap.size w w' := by
  unfold maxLen at hn hm
  by_cases hl : ns.length = ms.length
  · have hl0 : ((ns.length : Int) != ms.length) = false := by simp; omega
    have HL := Lib.hid hl
    clear hl
    go_enter Try.func28, Try.ntmps28
    go_wp2
    go_loopw [13] (fun i wr => ∃ k : Nat, k ≤ ns.length ∧ i = .int .i64 k ∧ ns.take k = ms.take k ∧ Below w.heap.size w wr) (fun i _ => ns.length - (intOf i).toNat)
    case atStart => exact ⟨0, by omega, rfl, rfl, Below.refl _ _⟩
    case round =>
      obtain ⟨k, hk, rfl, heq, hb⟩ := hrel
      have HEq := Lib.hid heq
      clear heq hl0
      by_cases hlt : k < ns.length
      · have hlt2 : k < ms.length := by rw [← HL.out]; exact hlt
        obtain ⟨ad, rfl, hbd, hc⟩ := (hr.next hb).at_ hlt
        obtain ⟨bd, rfl, hbe, hd⟩ := (hs.next hb).at_ hlt2
        have HT := Lib.hid (take_snoc ns k hlt)
        have HU := Lib.hid (take_snoc ms k hlt2)
        by_cases e : ns[k] = ms[k]
        · have E := Lib.hid e
          have t : (ns[k] == ms[k]) = true := by simpa using e
          have t2 : (ns[k] != ms[k]) = false := by simpa using e
          clear e
          go_wp2_with fail
          go_quiet (fail)
          go_wp2
          go_roundw
          case rel => exact ⟨k + 1, by omega, by go_num, by rw [HT.out, HU.out, HEq.out, E.out], below_drewN hb _⟩
          case measure => simp [intOf]; omega
        · have hne : (ns == ms) = false := by
            rw [beq_eq_false_iff_ne]; rintro rfl; exact e rfl
          have HNe := Lib.hid hne
          clear hne
          have t : (ns[k] == ms[k]) = false := by simpa using e
          have t2 : (ns[k] != ms[k]) = true := by simpa using e
          clear e
          go_wp2_with fail
          go_quiet (fail)
          go_wp2
          go_ret
          exact ⟨ret_bool HNe.out.symm, below_drewN hb _⟩
      · obtain rfl : k = ns.length := by omega
        go_wp2
        go_ret
        exact ⟨ret_bool (by
          have := HEq.out
          rw [List.take_length, HL.out, List.take_length] at this
          simp [this]), hb⟩
  · have hl0 : ((ns.length : Int) != ms.length) = true := by simp; omega
    have hne : (ns == ms) = false := by
      rw [beq_eq_false_iff_ne]; rintro rfl; exact hl rfl
    go_enter Try.func28, Try.ntmps28
    go_wp2
    go_ret
    exact ⟨ret_bool hne.symm, Below.refl _ _⟩
end Go.Proofs.Ytpiliicphoacfaa

namespace Go.Proofs.Ytpiliicphoacfaa

open Go Go.RowKit

/-- The parts of a token in memory. -/
def tkC (k c m : Int) (P : Option Addr) (ps : List Int) (pc : Nat) (s : ByteArray) (D : Option Addr) (dt : List Nat) (dc : Nat) : Array Value := #[.int .i64 k, .int .u8 c, .int .u8 m, .slice P ps.length pc, .string s, .slice D dt.length dc]
/-- What is known with two boxes in memory. -/
def KW (w : World) (T : TypeId) (x y : Array Value) (W : World) : Prop := Blk W w.heap.size T x ∧ Blk W (w.heap.size + 1) T y ∧ Below w.heap.size w W
theorem KW.start (w : World) (T : TypeId) (x y : Array Value) : KW w T x y ((w.alloc (.cells x T)).alloc (.cells y T)) :=
  ⟨(Blk.new w T x).alloc _, by have := Blk.new (w.alloc (.cells x T)) T y; simpa using this, ((Below.refl _ _).alloc (Nat.le_refl _) _).alloc (by simp) _⟩
theorem KW.next {w W W' : World} {T : TypeId} {x y : Array Value} (h : KW w T x y W) (hb : Below W.heap.size W W') : KW w T x y W' := ⟨h.1.next hb, h.2.1.next hb, h.2.2.trans (hb.mono h.2.2.size)⟩
def sameQ (k1 c1 m1 : Int) (ps1 : List Int) (s1 : ByteArray) (dt1 : List Nat) (k2 c2 m2 : Int) (ps2 : List Int) (s2 : ByteArray) (dt2 : List Nat) : Bool :=
  (k1 == k2) && ((c1 == c2) && ((m1 == m2) && ((s1.toList == s2.toList) && ((ps1 == ps2) && decide (bstr dt1 = bstr dt2)))))
set_option maxRecDepth 100000 in
set_option maxHeartbeats 4000000 in
theorem same_any (k1 c1 m1 : Int) (P1 : Option Addr) (ps1 : List Int) (pc1 : Nat) (s1 : ByteArray) (D1 : Option Addr) (dt1 : List Nat) (dc1 : Nat) (k2 c2 m2 : Int) (P2 : Option Addr) (ps2 : List Int) (pc2 : Nat) (s2 : ByteArray) (D2 : Option Addr) (dt2 : List Nat) (dc2 : Nat)
    (hp1 : ps1.length ≤ maxLen) (hp2 : ps2.length ≤ maxLen) (w : World) (hr1 : RInts w P1 ps1) (hr2 : RInts w P2 ps2) (hd1 : RByt w D1 dt1) (hd2 : RByt w D2 dt2) :
    Calls Try.prog 20 #[.agg (tkC k1 c1 m1 P1 ps1 pc1 s1 D1 dt1 dc1), .agg (tkC k2 c2 m2 P2 ps2 pc2 s2 D2 dt2 dc2)] w fun e w' => e = .returned (.bool (sameQ k1 c1 m1 ps1 s1 dt1 k2 c2 m2 ps2 s2 dt2)) ∧ Below w.heap.size w w' := by
  have HE := Lib.hid (fun W h g => equalI_any P1 P2 pc1 pc2 ps1 ps2 hp1 hp2 W h g)
  have HB := Lib.hid (fun W h g => bytesEqual_any D1 D2 dc1 dc2 dt1 dt2 W h g)
  have HR := Lib.hid (And.intro (And.intro hr1 hr2) (And.intro hd1 hd2))
  have HK := Lib.hid (KW.start w 27 (tkC k1 c1 m1 P1 ps1 pc1 s1 D1 dt1 dc1) (tkC k2 c2 m2 P2 ps2 pc2 s2 D2 dt2 dc2))
  clear hr1 hr2 hd1 hd2 hp1 hp2
  unfold sameQ
  unfold tkC at *
  generalize (ps1 == ps2) = q5 at *
  generalize decide (bstr dt1 = bstr dt2) = q6 at *
  rcases q0 : (k1 == k2) with _ | _
  · go_enter Try.func20, Try.ntmps20
    go_upto_region 1 with fail
    generalize (w.alloc (.cells #[.int .i64 k1, .int .u8 c1, .int .u8 m1, .slice P1 ps1.length pc1, .string s1, .slice D1 dt1.length dc1] 27)).alloc (.cells #[.int .i64 k2, .int .u8 c2, .int .u8 m2, .slice P2 ps2.length pc2, .string s2, .slice D2 dt2.length dc2] 27) = w1 at *
    obtain ⟨a0, a1, a2, a3, a4, a5⟩ := six HK.out.1
    obtain ⟨b0, b1, b2, b3, b4, b5⟩ := six HK.out.2.1
    go_wp2_with fail
    go_ret
    exact ⟨rfl, HK.out.2.2⟩
  · skip
    rcases q1 : (c1 == c2) with _ | _
    · go_enter Try.func20, Try.ntmps20
      go_upto_region 1 with fail
      generalize (w.alloc (.cells #[.int .i64 k1, .int .u8 c1, .int .u8 m1, .slice P1 ps1.length pc1, .string s1, .slice D1 dt1.length dc1] 27)).alloc (.cells #[.int .i64 k2, .int .u8 c2, .int .u8 m2, .slice P2 ps2.length pc2, .string s2, .slice D2 dt2.length dc2] 27) = w1 at *
      obtain ⟨a0, a1, a2, a3, a4, a5⟩ := six HK.out.1
      obtain ⟨b0, b1, b2, b3, b4, b5⟩ := six HK.out.2.1
      go_wp2_with fail
      go_ret
      exact ⟨rfl, HK.out.2.2⟩
    · skip
      rcases q2 : (m1 == m2) with _ | _
      · go_enter Try.func20, Try.ntmps20
        go_upto_region 1 with fail
        generalize (w.alloc (.cells #[.int .i64 k1, .int .u8 c1, .int .u8 m1, .slice P1 ps1.length pc1, .string s1, .slice D1 dt1.length dc1] 27)).alloc (.cells #[.int .i64 k2, .int .u8 c2, .int .u8 m2, .slice P2 ps2.length pc2, .string s2, .slice D2 dt2.length dc2] 27) = w1 at *
        obtain ⟨a0, a1, a2, a3, a4, a5⟩ := six HK.out.1
        obtain ⟨b0, b1, b2, b3, b4, b5⟩ := six HK.out.2.1
        go_wp2_with fail
        go_ret
        exact ⟨rfl, HK.out.2.2⟩
      · skip
        rcases q3 : (s1.toList == s2.toList) with _ | _
        · go_enter Try.func20, Try.ntmps20
          go_upto_region 1 with fail
          generalize (w.alloc (.cells #[.int .i64 k1, .int .u8 c1, .int .u8 m1, .slice P1 ps1.length pc1, .string s1, .slice D1 dt1.length dc1] 27)).alloc (.cells #[.int .i64 k2, .int .u8 c2, .int .u8 m2, .slice P2 ps2.length pc2, .string s2, .slice D2 dt2.length dc2] 27) = w1 at *
          obtain ⟨a0, a1, a2, a3, a4, a5⟩ := six HK.out.1
          obtain ⟨b0, b1, b2, b3, b4, b5⟩ := six HK.out.2.1
          go_wp2_with fail
          go_ret
          exact ⟨rfl, HK.out.2.2⟩
        · skip
          go_enter Try.func20, Try.ntmps20
          go_upto_region 1 with fail
          generalize (w.alloc (.cells #[.int .i64 k1, .int .u8 c1, .int .u8 m1, .slice P1 ps1.length pc1, .string s1, .slice D1 dt1.length dc1] 27)).alloc (.cells #[.int .i64 k2, .int .u8 c2, .int .u8 m2, .slice P2 ps2.length pc2, .string s2, .slice D2 dt2.length dc2] 27) = w1 at *
          obtain ⟨a0, a1, a2, a3, a4, a5⟩ := six HK.out.1
          obtain ⟨b0, b1, b2, b3, b4, b5⟩ := six HK.out.2.1
          go_wp2_with fail
          refine (HE.out _ (HR.out.1.1.next HK.out.2.2) (HR.out.1.2.next HK.out.2.2)).mono ?_
          rintro e w2 ⟨rfl, hb2⟩
          have HK2 := Lib.hid (HK.out.next hb2)
          clear hb2 a0 a1 a2 a3 a4 a5 b0 b1 b2 b3 b4 b5 HK HE
          obtain ⟨a0, a1, a2, a3, a4, a5⟩ := six HK2.out.1
          obtain ⟨b0, b1, b2, b3, b4, b5⟩ := six HK2.out.2.1
          rcases q5 with _ | _
          · go_wp2_with fail
            go_ret
            exact ⟨rfl, HK2.out.2.2⟩
          · go_wp2_with fail
            refine (HB.out _ (HR.out.2.1.next HK2.out.2.2) (HR.out.2.2.next HK2.out.2.2)).mono ?_
            rintro e w3 ⟨rfl, rfl⟩
            go_wp2_with fail
            go_ret
            exact ⟨rfl, HK2.out.2.2⟩
end Go.Proofs.Ytpiliicphoacfaa

namespace Go.Proofs.Ytpiliicphoacfaa

open Go Go.RowKit


set_option maxRecDepth 100000 in
set_option maxHeartbeats 4000000 in
theorem refSame_any (k1 c1 m1 : Int) (P1 : Option Addr) (ps1 : List Int) (pc1 : Nat) (s1 : ByteArray) (D1 : Option Addr) (dt1 : List Nat) (dc1 : Nat) (k2 c2 m2 : Int) (P2 : Option Addr) (ps2 : List Int) (pc2 : Nat) (s2 : ByteArray) (D2 : Option Addr) (dt2 : List Nat) (dc2 : Nat)
    (hp1 : ps1.length ≤ maxLen) (hp2 : ps2.length ≤ maxLen) (w : World) (hr1 : RInts w P1 ps1) (hr2 : RInts w P2 ps2) (hd1 : RByt w D1 dt1) (hd2 : RByt w D2 dt2) :
    Calls Try.prog 18 #[.agg (tkC k1 c1 m1 P1 ps1 pc1 s1 D1 dt1 dc1), .agg (tkC k2 c2 m2 P2 ps2 pc2 s2 D2 dt2 dc2)] w fun e w' => e = .returned (.bool (sameQ k1 c1 m1 ps1 s1 dt1 k2 c2 m2 ps2 s2 dt2)) ∧ Below w.heap.size w w' := by
  have HE := Lib.hid (fun W h g => sameInts_any P1 P2 pc1 pc2 ps1 ps2 hp1 hp2 W h g)
  have H3 := Lib.hid (str_eq (a := bstr dt1) (b := bstr dt2))
  have HC1 := Lib.hid (fun W h => conv_by (A := D1) (ns := dt1) (W := W) h dc1); have HC2 := Lib.hid (fun W h => conv_by (A := D2) (ns := dt2) (W := W) h dc2)
  have HR := Lib.hid (And.intro (And.intro hr1 hr2) (And.intro hd1 hd2))
  have HK := Lib.hid (KW.start w 51 (tkC k1 c1 m1 P1 ps1 pc1 s1 D1 dt1 dc1) (tkC k2 c2 m2 P2 ps2 pc2 s2 D2 dt2 dc2))
  clear hr1 hr2 hd1 hd2 hp1 hp2
  unfold sameQ
  unfold tkC at *
  generalize (ps1 == ps2) = q5 at *
  generalize decide (bstr dt1 = bstr dt2) = q6 at *
  generalize bstr dt1 = x1 at *
  generalize bstr dt2 = x2 at *
  rcases q0 : (k1 == k2) with _ | _
  · go_enter Try.func18, Try.ntmps18
    go_upto_region 1 with fail
    generalize (w.alloc (.cells #[.int .i64 k1, .int .u8 c1, .int .u8 m1, .slice P1 ps1.length pc1, .string s1, .slice D1 dt1.length dc1] 51)).alloc (.cells #[.int .i64 k2, .int .u8 c2, .int .u8 m2, .slice P2 ps2.length pc2, .string s2, .slice D2 dt2.length dc2] 51) = w1 at *
    obtain ⟨a0, a1, a2, a3, a4, a5⟩ := six HK.out.1
    obtain ⟨b0, b1, b2, b3, b4, b5⟩ := six HK.out.2.1
    go_wp2_with fail
    go_ret
    exact ⟨rfl, HK.out.2.2⟩
  · skip
    rcases q1 : (c1 == c2) with _ | _
    · go_enter Try.func18, Try.ntmps18
      go_upto_region 1 with fail
      generalize (w.alloc (.cells #[.int .i64 k1, .int .u8 c1, .int .u8 m1, .slice P1 ps1.length pc1, .string s1, .slice D1 dt1.length dc1] 51)).alloc (.cells #[.int .i64 k2, .int .u8 c2, .int .u8 m2, .slice P2 ps2.length pc2, .string s2, .slice D2 dt2.length dc2] 51) = w1 at *
      obtain ⟨a0, a1, a2, a3, a4, a5⟩ := six HK.out.1
      obtain ⟨b0, b1, b2, b3, b4, b5⟩ := six HK.out.2.1
      go_wp2_with fail
      go_ret
      exact ⟨rfl, HK.out.2.2⟩
    · skip
      rcases q2 : (m1 == m2) with _ | _
      · go_enter Try.func18, Try.ntmps18
        go_upto_region 1 with fail
        generalize (w.alloc (.cells #[.int .i64 k1, .int .u8 c1, .int .u8 m1, .slice P1 ps1.length pc1, .string s1, .slice D1 dt1.length dc1] 51)).alloc (.cells #[.int .i64 k2, .int .u8 c2, .int .u8 m2, .slice P2 ps2.length pc2, .string s2, .slice D2 dt2.length dc2] 51) = w1 at *
        obtain ⟨a0, a1, a2, a3, a4, a5⟩ := six HK.out.1
        obtain ⟨b0, b1, b2, b3, b4, b5⟩ := six HK.out.2.1
        go_wp2_with fail
        go_ret
        exact ⟨rfl, HK.out.2.2⟩
      · skip
        rcases q3 : (s1.toList == s2.toList) with _ | _
        · go_enter Try.func18, Try.ntmps18
          go_upto_region 1 with fail
          generalize (w.alloc (.cells #[.int .i64 k1, .int .u8 c1, .int .u8 m1, .slice P1 ps1.length pc1, .string s1, .slice D1 dt1.length dc1] 51)).alloc (.cells #[.int .i64 k2, .int .u8 c2, .int .u8 m2, .slice P2 ps2.length pc2, .string s2, .slice D2 dt2.length dc2] 51) = w1 at *
          obtain ⟨a0, a1, a2, a3, a4, a5⟩ := six HK.out.1
          obtain ⟨b0, b1, b2, b3, b4, b5⟩ := six HK.out.2.1
          go_wp2_with fail
          go_ret
          exact ⟨rfl, HK.out.2.2⟩
        · skip
          go_enter Try.func18, Try.ntmps18
          go_upto_region 1 with fail
          generalize (w.alloc (.cells #[.int .i64 k1, .int .u8 c1, .int .u8 m1, .slice P1 ps1.length pc1, .string s1, .slice D1 dt1.length dc1] 51)).alloc (.cells #[.int .i64 k2, .int .u8 c2, .int .u8 m2, .slice P2 ps2.length pc2, .string s2, .slice D2 dt2.length dc2] 51) = w1 at *
          obtain ⟨a0, a1, a2, a3, a4, a5⟩ := six HK.out.1
          obtain ⟨b0, b1, b2, b3, b4, b5⟩ := six HK.out.2.1
          go_wp2_with fail
          refine (HE.out _ (HR.out.1.1.next HK.out.2.2) (HR.out.1.2.next HK.out.2.2)).mono ?_
          rintro e w2 ⟨rfl, hb2⟩
          have HK2 := Lib.hid (HK.out.next hb2)
          clear hb2 a0 a1 a2 a3 a4 a5 b0 b1 b2 b3 b4 b5 HK HE
          obtain ⟨a0, a1, a2, a3, a4, a5⟩ := six HK2.out.1
          obtain ⟨b0, b1, b2, b3, b4, b5⟩ := six HK2.out.2.1
          rcases q5 with _ | _
          · go_wp2_with fail
            go_ret
            exact ⟨rfl, HK2.out.2.2⟩
          · have hc1 := HC1.out _ (HR.out.2.1.next HK2.out.2.2)
            have hc2 := HC2.out _ (HR.out.2.2.next HK2.out.2.2)
            go_wp2_with fail
            go_ret
            exact ⟨ret_bool H3.out, HK2.out.2.2⟩
end Go.Proofs.Ytpiliicphoacfaa

namespace Go.Proofs.Ytpiliicphoacfaa

open Go Go.RowKit



/-- What is known with one box in memory. -/
def K1 (w : World) (T : TypeId) (x : Array Value) (W : World) : Prop := Blk W w.heap.size T x ∧ Below w.heap.size w W
theorem K1.start (w : World) (T : TypeId) (x : Array Value) : K1 w T x (w.alloc (.cells x T)) := ⟨Blk.new w T x, (Below.refl _ _).alloc (Nat.le_refl _) _⟩
theorem K1.next {w W W' : World} {T : TypeId} {x : Array Value} (h : K1 w T x W) (hb : Below W.heap.size W W') : K1 w T x W' := ⟨h.1.next hb, h.2.trans (hb.mono h.2.size)⟩
/-- A byte that leads to another kind, or ends a string. -/
def leadsB (c : Nat) : Bool := [80, 88, 91, 92, 93, 94, 95].contains c
theorem leads_idx : ∀ c : Nat, c < 256 → decide (0 ≤ Lib.indexByte [91, 80, 93, 88, 94, 95] (c : Int).toNat.toUInt8) = (leadsB c && (c != 92)) := by decide +kernel

def smallB (ps : List Int) (s : ByteArray) (dt : List Nat) : Bool := decide (s.size ≤ 3) && (decide (ps.length ≤ 30) && (decide (dt.length ≤ 4096) && !(ps.any outB)))
def codedB (k : Int) (c : Nat) (s : ByteArray) : Bool :=
  if k = 1 then amongB c 32 126 || decide (160 ≤ c)
  else if k = 2 then amongB c 1 31 && ((c != 24) && (c != 27))
  else if k = 3 then amongB c 48 126 && (!decide (s.size = 0) || !leadsB c)
  else if k = 4 ∨ k = 5 then amongB c 64 126
  else true


end Go.Proofs.Ytpiliicphoacfaa

namespace Go.Proofs.Ytpiliicphoacfaa

open Go Go.RowKit

def interB (b : UInt8) : Bool := amongB b.toNat 32 47
def writtenB (m : Nat) (s : ByteArray) (dt : List Nat) : Bool := ((m == 0) || amongB m 60 63) && (s.data.toList.all interB && !(dt.any noDataB))
theorem dlen (s : ByteArray) : s.data.toList.length = s.size := by show s.data.toList.length = s.data.size; simp
theorem dat (s : ByteArray) (k : Nat) (hk : k < s.size) : s.data.toList[k]'(by rw [dlen]; exact hk) = s[k] := by simp; rfl
theorem all_step {s : ByteArray} {k : Nat} (hk : k < s.size) (h : (s.data.toList.take k).all interB = true) : (interB s[k] = true → (s.data.toList.take (k + 1)).all interB = true) ∧ (interB s[k] = false → s.data.toList.all interB = false) := by
  have hl : k < s.data.toList.length := by rw [dlen]; exact hk
  constructor
  · intro hi
    rw [take_snoc _ k hl, List.all_append, h, dat s k hk]
    simp [hi]
  · intro hi
    rcases he : s.data.toList.all interB with _ | _
    · rfl
    · have := List.all_eq_true.1 he _ (List.getElem_mem hl)
      rw [dat s k hk, hi] at this
      cases this
theorem all_end {s : ByteArray} (h : (s.data.toList.take s.size).all interB = true) : s.data.toList.all interB = true := by
  rw [List.take_of_length_le (by rw [dlen]; exact Nat.le_refl _)] at h
  exact h

def pureB (k : Int) (c m : Nat) (ps : List Int) (s : ByteArray) (dt : List Nat) : Bool :=
  if k = 1 ∨ k = 2 then sameQ k 0 m ps s dt k 0 0 [] (ByteArray.mk #[]) []
  else if k = 3 then sameQ k 0 m ps (ByteArray.mk #[]) dt k 0 0 [] (ByteArray.mk #[]) []
  else if k = 4 then sameQ k 0 0 [] (ByteArray.mk #[]) dt k 0 0 [] (ByteArray.mk #[]) []
  else if k = 5 then true
  else sameQ k c m ps s [] k 0 0 [] (ByteArray.mk #[]) []
theorem pure5 : sameQ 5 0 0 [] (ByteArray.mk #[]) [] 5 0 0 [] (ByteArray.mk #[]) [] = true := by decide +kernel
theorem rints_nil (W : World) : RInts W none [] := Reads.none_
theorem rbyt_nil (W : World) : RByt W none [] := Reads.none_
def put6 (w : World) (g : Nat) (v0 v1 v2 v3 v4 v5 : Value) : World := (((((w.setCell ⟨g, 0, none⟩ v0).setCell ⟨g, 1, none⟩ v1).setCell ⟨g, 2, none⟩ v2).setCell ⟨g, 3, none⟩ v3).setCell ⟨g, 4, none⟩ v4).setCell ⟨g, 5, none⟩ v5
theorem KW.set {w W : World} {T : TypeId} {x y : Array Value} (h : KW w T x y W) (i : Nat) (v : Value) : KW w T x (y.setIfInBounds i v) (W.setCell ⟨w.heap.size + 1, i, none⟩ v) :=
  ⟨h.1.far (p := ⟨w.heap.size + 1, i, none⟩) (by simp) v, h.2.1.set_ i v, h.2.2.setCell (p := ⟨w.heap.size + 1, i, none⟩) (by simp) v⟩
theorem KW.put {w W : World} {T : TypeId} {x : Array Value} {u0 u1 u2 u3 u4 u5 : Value} (h : KW w T x #[u0, u1, u2, u3, u4, u5] W) (v0 v1 v2 v3 v4 v5 : Value) : KW w T x #[v0, v1, v2, v3, v4, v5] (put6 W (w.heap.size + 1) v0 v1 v2 v3 v4 v5) := by
  have := (((((h.set 0 v0).set 1 v1).set 2 v2).set 3 v3).set 4 v4).set 5 v5
  simp only [List.setIfInBounds_toArray, List.set_cons_zero, List.set_cons_succ] at this
  exact this

end Go.Proofs.Ytpiliicphoacfaa

namespace Go.Proofs.Ytpiliicphoacfaa

open Go Go.RowKit

def checkP (k : Int) (c m : Nat) (ps : List Int) (s : ByteArray) (dt : List Nat) : Int :=
  if k < 1 ∨ 9 < k then 1
  else if smallB ps s dt = false then 2
  else if (pureB k c m ps s dt && (codedB k c s && writtenB m s dt)) = false then 3
  else 0

end Go.Proofs.Ytpiliicphoacfaa

/-
  CursMoves holds, whatever the input.
-/
import Derived.Test.YtilfhilebdkmkaaFrame0
import Derived.Test.YtilfhilebdkmkaaCurM
import Derived.Test.YtilfhilebdkmkaaCurP
import Derived.Test.YtilfhilebdkmkaaCurQ
import Derived.Test.YtilfhilebdkmkaaCurR
import Derived.Test.YtilfhilebdkmkaaFrameU
namespace Go.Proofs.Ytilfhilebdkmkaa.cursMoves
open Go.ChangeShapes Go.WideShapes Go.ChangeAt Go.RowKit
open Go.ChangeMaps (open_string)

set_option maxRecDepth 100000 in
set_option maxHeartbeats 32000000 in
theorem walk (r c : Int) (wp : Bool) (K : CK) (f : Fr) (A0 : Option Addr) (cap : Nat) (l : List Ac3) (hm : l.length ≤ maxLen) (hok : ∀ a ∈ l, a.ok) (w : World) (hri : RAc w A0 l) :
    Calls Try.prog 3 #[uV r c wp K, fV f, .slice A0 l.length cap] w fun e w' => e = .returned (.bool true) ∧ Below w.heap.size w w' := by
  have HAw := Lib.hid (fun V => awakeC_any V)
  have HSm := Lib.hid (fun V => smallF_any f V)
  have HRi := Lib.hid hri
  have HOk := Lib.hid hok
  have HMl := Lib.hid hm
  clear hri hok hm
  have HK := Lib.hid (show Bs w [(w.heap.size + 1, 31, fC f), (w.heap.size, 27, uC r c wp K)] _ from Bs.start2 w 27 31 (uC r c wp K) (fC f))
  have hsm0 : smF f = true → ∃ H W it il ib ir, FrOk f H W it il ib ir := fun h => fr_ok f (by unfold smF at h; simp at h; omega) (by unfold smF at h; simp at h; omega)
  have HS0 := Lib.hid hsm0
  clear hsm0
  generalize smF f = sm at *
  unfold uV fV at *
  go_enter Try.func3, Try.ntmps3
  go_wp2_with fail
  refine (HAw.out _).mono ?_
  rintro e w1 ⟨rfl, hb1⟩
  have HK1 := Lib.hid (HK.out.next hb1)
  clear hb1 HK
  obtain ⟨a0, a1, a2, a3, a4, a5, a6, a7⟩ := fra8 HK1.out.b0
  go_wp2_with fail
  refine (HSm.out _).mono ?_
  rintro e w2 ⟨rfl, hb2⟩
  have HK2 := Lib.hid (HK1.out.next hb2)
  clear hb2 HK1 a0 a1 a2 a3 a4 a5 a6 a7
  rcases sm with _ | _
  case false =>
    go_wp2_with fail
    go_ret
    exact ⟨rfl, HK2.out.bel⟩
  obtain ⟨H, W, it, il, ib, ir, h⟩ := HS0.out (by simp)
  have HFr := Lib.hid (fun V => lFrame_any f V)
  have HO := Lib.hid (fun V => cOwn_any r c wp K V)
  have HTo := Lib.hid (fun x y z V => cTold_any x y z K V)
  have HN := Lib.hid (fun V => cursNew_any V)
  have HNT := Lib.hid (fun V => cTold_any 0 0 false newK V)
  have HRN := Lib.hid (fun V => refCursNew_any V)
  have HWh := Lib.hid (fun V => fWhole_any h V); have HRWh := Lib.hid (fun V => refWholeC_any h V)
  have HIn := Lib.hid (fun V => fInner_any h V); have HRIn := Lib.hid (fun V => refInnerC_any h V)
  have HA1 : Hid (∀ V, Calls Try.prog 15 #[fV f, .bool true] V fun e w' => e = .returned (bV it il ib ir) ∧ Below V.heap.size V w') := Lib.hid (fun V => fArea_any h true V)
  have HA0 : Hid (∀ V, Calls Try.prog 15 #[fV f, .bool false] V fun e w' => e = .returned (bV 0 0 H W) ∧ Below V.heap.size V w') := Lib.hid (fun V => fArea_any h false V)
  have HIs := Lib.hid (fun V => fInside_any h r c wp K V); have HRIs := Lib.hid (fun V => refInside_any h r c wp K V)
  have HDo := Lib.hid (fun x y z k n m hn V => do_any h x y z K x y z K k n m hn V)
  have HE := Lib.hid (fun W a b e => neq_curR W a b K.rd K.kp e K.og K.a K.b K.c K.d K.l K.r K.s)
  have HEq := Lib.hid (fun W => eql_curR W 0 0 0 false false false 1 1 4 4 0 2 0)
  have HG := Lib.hid guard_curR
  have HEb := Lib.hid (fun W t l b r => neq_boxU W t l b r)
  have HGb := Lib.hid guard_boxU
  clear h HS0
  generalize insB H W it il ib ir r c = ins at *
  unfold uV fV bV newK at *
  obtain ⟨a0, a1, a2, a3, a4, a5, a6, a7⟩ := fra8 HK2.out.b0
  go_wp2_with fail
  refine (HFr.out _).mono ?_
  rintro e w3 ⟨rfl, hb3⟩
  have HK3 := Lib.hid ((HK2.out.next hb3).alloc 35 #[.int .i64 f.pt, .int .i64 f.pl, .int .i64 f.pb, .int .i64 f.pr, .int .i64 f.mt, .int .i64 f.ml, .int .i64 f.mb, .int .i64 f.mr])
  clear hb3 HK2 a0 a1 a2 a3 a4 a5 a6 a7
  go_upto_region 6 with fail
  generalize w3.heap.size = g1 at *
  refine world_gen (fun V => Bs w [(g1, 35, #[.int .i64 f.pt, .int .i64 f.pl, .int .i64 f.pb, .int .i64 f.pr, .int .i64 f.mt, .int .i64 f.ml, .int .i64 f.mb, .int .i64 f.mr]), (w.heap.size + 1, 31, fC f), (w.heap.size, 27, uC r c wp K)] V) HK3.out ?_
  clear HK3
  intro V HV
  replace HV := Lib.hid HV
  have HX := Lib.hid (fun w' (h : Only [] V w') => And.intro (fra8 (h.blk HV.out.b0 (by simp))) (And.intro (fra8 (h.blk HV.out.b1 (by simp))) (cur13 (h.blk HV.out.b2 (by simp)))))
  --#1
  refine wp_region_mix_lit (by kernel_rfl) [(1, .call (.agg #[.int .i64 0, .int .i64 0, .int .i64 H, .int .i64 W])), (3, .call (.agg #[.int .i64 0, .int .i64 0, .int .i64 H, .int .i64 W])), (7, .call (.agg #[.int .i64 it, .int .i64 il, .int .i64 ib, .int .i64 ir])), (9, .call (.agg #[.int .i64 it, .int .i64 il, .int .i64 ib, .int .i64 ir])), (14, .call (.agg #[.int .i64 it, .int .i64 il, .int .i64 ib, .int .i64 ir])), (16, .call (.agg #[.int .i64 it, .int .i64 il, .int .i64 ib, .int .i64 ir])), (21, .call (.agg #[.int .i64 0, .int .i64 0, .int .i64 H, .int .i64 W])), (23, .call (.agg #[.int .i64 0, .int .i64 0, .int .i64 H, .int .i64 W])), (28, .call (.agg #[.int .i64 r, .int .i64 c, .int .u8 K.rd, .bool K.kp, .bool wp, .bool K.og, .int .i64 K.a, .int .i64 K.b, .int .i64 K.c, .int .i64 K.d, .int .i64 K.l, .int .i64 K.r, .int .i64 K.s])), (30, .call (.bool ins)), (33, .call (.bool ins))] (by kernel_rfl) (by kernel_rfl) (by kernel_rfl) (by rfl) (by simp [apartK] <;> omega) (by simp [startK]) (by simp [stabK]) (⟨fun _ => undef, by simp [okK]⟩) (fun β hβ => ?_)
  repeat (
    refine lex_val (v := ?_) rfl rfl (fun w' hf => ?_) ?_
    rotate_left
    · obtain ⟨⟨a0, a1, a2, a3, a4, a5, a6, a7⟩, ⟨i0, i1, i2, i3, i4, i5, i6, i7⟩, c0, c1, c2, c3, c4, c5, c6, c7, c8, c9, c10, c11, c12⟩ := HX.out w' hf.only; go_simp
      try rfl
    try simp only [Act.put, List.setIfInBounds_toArray, List.set_cons_zero, List.set_cons_succ])
  refine lex_call (f := 11) (args := ?_) rfl rfl (fun w' hf => ?_) (fun w' hf => ?_) ?_
  rotate_left
  · go_simp
    try rfl
  · exact HWh.out w'
  try simp only [Act.put, List.setIfInBounds_toArray, List.set_cons_zero, List.set_cons_succ]
  repeat (
    refine lex_val (v := ?_) rfl rfl (fun w' hf => ?_) ?_
    rotate_left
    · obtain ⟨⟨a0, a1, a2, a3, a4, a5, a6, a7⟩, ⟨i0, i1, i2, i3, i4, i5, i6, i7⟩, c0, c1, c2, c3, c4, c5, c6, c7, c8, c9, c10, c11, c12⟩ := HX.out w' hf.only; go_simp
      try rfl
    try simp only [Act.put, List.setIfInBounds_toArray, List.set_cons_zero, List.set_cons_succ])
  refine lex_call (f := 12) (args := ?_) rfl rfl (fun w' hf => ?_) (fun w' hf => ?_) ?_
  rotate_left
  · go_simp
    try rfl
  · exact HRWh.out w'
  try simp only [Act.put, List.setIfInBounds_toArray, List.set_cons_zero, List.set_cons_succ]
  refine lex_val (v := ?_) rfl rfl (fun w' hf => ?_) ?_
  rotate_left
  · have he := HEb.out; have hg := HGb.out; go_simp
    try rfl
  try simp only [Act.put, List.setIfInBounds_toArray, List.set_cons_zero, List.set_cons_succ]
  repeat (
    refine lex_val (v := ?_) rfl rfl (fun w' hf => ?_) ?_
    rotate_left
    · obtain ⟨⟨a0, a1, a2, a3, a4, a5, a6, a7⟩, ⟨i0, i1, i2, i3, i4, i5, i6, i7⟩, c0, c1, c2, c3, c4, c5, c6, c7, c8, c9, c10, c11, c12⟩ := HX.out w' hf.only; go_simp
      try rfl
    try simp only [Act.put, List.setIfInBounds_toArray, List.set_cons_zero, List.set_cons_succ])
  refine lex_call (f := 13) (args := ?_) rfl rfl (fun w' hf => ?_) (fun w' hf => ?_) ?_
  rotate_left
  · go_simp
    try rfl
  · exact HIn.out w'
  try simp only [Act.put, List.setIfInBounds_toArray, List.set_cons_zero, List.set_cons_succ]
  repeat (
    refine lex_val (v := ?_) rfl rfl (fun w' hf => ?_) ?_
    rotate_left
    · obtain ⟨⟨a0, a1, a2, a3, a4, a5, a6, a7⟩, ⟨i0, i1, i2, i3, i4, i5, i6, i7⟩, c0, c1, c2, c3, c4, c5, c6, c7, c8, c9, c10, c11, c12⟩ := HX.out w' hf.only; go_simp
      try rfl
    try simp only [Act.put, List.setIfInBounds_toArray, List.set_cons_zero, List.set_cons_succ])
  refine lex_call (f := 14) (args := ?_) rfl rfl (fun w' hf => ?_) (fun w' hf => ?_) ?_
  rotate_left
  · go_simp
    try rfl
  · exact HRIn.out w'
  try simp only [Act.put, List.setIfInBounds_toArray, List.set_cons_zero, List.set_cons_succ]
  refine lex_val (v := ?_) rfl rfl (fun w' hf => ?_) ?_
  rotate_left
  · have he := HEb.out; have hg := HGb.out; go_simp
    try rfl
  try simp only [Act.put, List.setIfInBounds_toArray, List.set_cons_zero, List.set_cons_succ]
  repeat (
    refine lex_val (v := ?_) rfl rfl (fun w' hf => ?_) ?_
    rotate_left
    · obtain ⟨⟨a0, a1, a2, a3, a4, a5, a6, a7⟩, ⟨i0, i1, i2, i3, i4, i5, i6, i7⟩, c0, c1, c2, c3, c4, c5, c6, c7, c8, c9, c10, c11, c12⟩ := HX.out w' hf.only; go_simp
      try rfl
    try simp only [Act.put, List.setIfInBounds_toArray, List.set_cons_zero, List.set_cons_succ])
  refine lex_call (f := 15) (args := ?_) rfl rfl (fun w' hf => ?_) (fun w' hf => ?_) ?_
  rotate_left
  · go_simp
    try rfl
  · exact HA1.out w'
  try simp only [Act.put, List.setIfInBounds_toArray, List.set_cons_zero, List.set_cons_succ]
  repeat (
    refine lex_val (v := ?_) rfl rfl (fun w' hf => ?_) ?_
    rotate_left
    · obtain ⟨⟨a0, a1, a2, a3, a4, a5, a6, a7⟩, ⟨i0, i1, i2, i3, i4, i5, i6, i7⟩, c0, c1, c2, c3, c4, c5, c6, c7, c8, c9, c10, c11, c12⟩ := HX.out w' hf.only; go_simp
      try rfl
    try simp only [Act.put, List.setIfInBounds_toArray, List.set_cons_zero, List.set_cons_succ])
  refine lex_call (f := 14) (args := ?_) rfl rfl (fun w' hf => ?_) (fun w' hf => ?_) ?_
  rotate_left
  · go_simp
    try rfl
  · exact HRIn.out w'
  try simp only [Act.put, List.setIfInBounds_toArray, List.set_cons_zero, List.set_cons_succ]
  refine lex_val (v := ?_) rfl rfl (fun w' hf => ?_) ?_
  rotate_left
  · have he := HEb.out; have hg := HGb.out; go_simp
    try rfl
  try simp only [Act.put, List.setIfInBounds_toArray, List.set_cons_zero, List.set_cons_succ]
  repeat (
    refine lex_val (v := ?_) rfl rfl (fun w' hf => ?_) ?_
    rotate_left
    · obtain ⟨⟨a0, a1, a2, a3, a4, a5, a6, a7⟩, ⟨i0, i1, i2, i3, i4, i5, i6, i7⟩, c0, c1, c2, c3, c4, c5, c6, c7, c8, c9, c10, c11, c12⟩ := HX.out w' hf.only; go_simp
      try rfl
    try simp only [Act.put, List.setIfInBounds_toArray, List.set_cons_zero, List.set_cons_succ])
  refine lex_call (f := 15) (args := ?_) rfl rfl (fun w' hf => ?_) (fun w' hf => ?_) ?_
  rotate_left
  · go_simp
    try rfl
  · exact HA0.out w'
  try simp only [Act.put, List.setIfInBounds_toArray, List.set_cons_zero, List.set_cons_succ]
  repeat (
    refine lex_val (v := ?_) rfl rfl (fun w' hf => ?_) ?_
    rotate_left
    · obtain ⟨⟨a0, a1, a2, a3, a4, a5, a6, a7⟩, ⟨i0, i1, i2, i3, i4, i5, i6, i7⟩, c0, c1, c2, c3, c4, c5, c6, c7, c8, c9, c10, c11, c12⟩ := HX.out w' hf.only; go_simp
      try rfl
    try simp only [Act.put, List.setIfInBounds_toArray, List.set_cons_zero, List.set_cons_succ])
  refine lex_call (f := 12) (args := ?_) rfl rfl (fun w' hf => ?_) (fun w' hf => ?_) ?_
  rotate_left
  · go_simp
    try rfl
  · exact HRWh.out w'
  try simp only [Act.put, List.setIfInBounds_toArray, List.set_cons_zero, List.set_cons_succ]
  refine lex_val (v := ?_) rfl rfl (fun w' hf => ?_) ?_
  rotate_left
  · have he := HEb.out; have hg := HGb.out; go_simp
    try rfl
  try simp only [Act.put, List.setIfInBounds_toArray, List.set_cons_zero, List.set_cons_succ]
  repeat (
    refine lex_val (v := ?_) rfl rfl (fun w' hf => ?_) ?_
    rotate_left
    · obtain ⟨⟨a0, a1, a2, a3, a4, a5, a6, a7⟩, ⟨i0, i1, i2, i3, i4, i5, i6, i7⟩, c0, c1, c2, c3, c4, c5, c6, c7, c8, c9, c10, c11, c12⟩ := HX.out w' hf.only; go_simp
      try rfl
    try simp only [Act.put, List.setIfInBounds_toArray, List.set_cons_zero, List.set_cons_succ])
  refine lex_call (f := 16) (args := ?_) rfl rfl (fun w' hf => ?_) (fun w' hf => ?_) ?_
  rotate_left
  · go_simp
    try rfl
  · exact HO.out w'
  try simp only [Act.put, List.setIfInBounds_toArray, List.set_cons_zero, List.set_cons_succ]
  repeat (
    refine lex_val (v := ?_) rfl rfl (fun w' hf => ?_) ?_
    rotate_left
    · obtain ⟨⟨a0, a1, a2, a3, a4, a5, a6, a7⟩, ⟨i0, i1, i2, i3, i4, i5, i6, i7⟩, c0, c1, c2, c3, c4, c5, c6, c7, c8, c9, c10, c11, c12⟩ := HX.out w' hf.only; go_simp
      try rfl
    try simp only [Act.put, List.setIfInBounds_toArray, List.set_cons_zero, List.set_cons_succ])
  refine lex_call (f := 17) (args := ?_) rfl rfl (fun w' hf => ?_) (fun w' hf => ?_) ?_
  rotate_left
  · go_simp
    try rfl
  · exact HIs.out w'
  try simp only [Act.put, List.setIfInBounds_toArray, List.set_cons_zero, List.set_cons_succ]
  repeat (
    refine lex_val (v := ?_) rfl rfl (fun w' hf => ?_) ?_
    rotate_left
    · obtain ⟨⟨a0, a1, a2, a3, a4, a5, a6, a7⟩, ⟨i0, i1, i2, i3, i4, i5, i6, i7⟩, c0, c1, c2, c3, c4, c5, c6, c7, c8, c9, c10, c11, c12⟩ := HX.out w' hf.only; go_simp
      try rfl
    try simp only [Act.put, List.setIfInBounds_toArray, List.set_cons_zero, List.set_cons_succ])
  refine lex_call (f := 18) (args := ?_) rfl rfl (fun w' hf => ?_) (fun w' hf => ?_) ?_
  rotate_left
  · go_simp
    try rfl
  · exact HRIs.out w'
  try simp only [Act.put, List.setIfInBounds_toArray, List.set_cons_zero, List.set_cons_succ]
  repeat (
    refine lex_val (v := ?_) rfl rfl (fun w' hf => ?_) ?_
    rotate_left
    · go_simp
      try rfl
    try simp only [Act.put, List.setIfInBounds_toArray, List.set_cons_zero, List.set_cons_succ])
  refine lex_nil fun w5 he => ?_
  have HK5 := Lib.hid (HV.out.next he.only.below0)
  clear he HX HV hβ HWh HRWh HIn HRIn HA0 HA1 HIs HRIs HEb HGb
  --#2
  obtain ⟨c0, c1, c2, c3, c4, c5, c6, c7, c8, c9, c10, c11, c12⟩ := cur13 HK5.out.b2
  go_wp2_with fail
  refine (HO.out _).mono ?_
  rintro e w6 ⟨rfl, hb6⟩
  have HK6 := Lib.hid ((HK5.out.next hb6).alloc 44 #[.int .i64 r, .int .i64 c, .int .u8 K.rd, .bool K.kp, .bool wp, .bool K.og, .int .i64 K.a, .int .i64 K.b, .int .i64 K.c, .int .i64 K.d, .int .i64 K.l, .int .i64 K.r, .int .i64 K.s])
  clear hb6 HK5 c0 c1 c2 c3 c4 c5 c6 c7 c8 c9 c10 c11 c12 HO
  go_upto_region 9 with fail
  generalize w6.heap.size = g2 at *
  refine world_gen (fun V => Bs w [(g2, 44, #[.int .i64 r, .int .i64 c, .int .u8 K.rd, .bool K.kp, .bool wp, .bool K.og, .int .i64 K.a, .int .i64 K.b, .int .i64 K.c, .int .i64 K.d, .int .i64 K.l, .int .i64 K.r, .int .i64 K.s]), (w.heap.size, 27, #[.int .i64 r, .int .i64 c, .int .u8 K.rd, .bool K.kp, .bool wp, .bool K.og, .int .i64 K.a, .int .i64 K.b, .int .i64 K.c, .int .i64 K.d, .int .i64 K.l, .int .i64 K.r, .int .i64 K.s]), (g1, 35, #[.int .i64 f.pt, .int .i64 f.pl, .int .i64 f.pb, .int .i64 f.pr, .int .i64 f.mt, .int .i64 f.ml, .int .i64 f.mb, .int .i64 f.mr]), (w.heap.size + 1, 31, fC f)] V) HK6.out.sw3.sw1 ?_
  clear HK6
  intro V HV
  replace HV := Lib.hid HV
  go_wp2_with fail
  --#3
  go_loopw [9] (fun i wr => ∃ (k : Nat) (x y : Int) (z : Bool), k ≤ l.length ∧ k ≤ 20 ∧ i = .int .i64 k ∧ Bs w [(g2, 44, #[.int .i64 x, .int .i64 y, .int .u8 K.rd, .bool K.kp, .bool z, .bool K.og, .int .i64 K.a, .int .i64 K.b, .int .i64 K.c, .int .i64 K.d, .int .i64 K.l, .int .i64 K.r, .int .i64 K.s]), (w.heap.size, 27, #[.int .i64 x, .int .i64 y, .int .u8 K.rd, .bool K.kp, .bool z, .bool K.og, .int .i64 K.a, .int .i64 K.b, .int .i64 K.c, .int .i64 K.d, .int .i64 K.l, .int .i64 K.r, .int .i64 K.s]), (g1, 35, #[.int .i64 f.pt, .int .i64 f.pl, .int .i64 f.pb, .int .i64 f.pr, .int .i64 f.mt, .int .i64 f.ml, .int .i64 f.mb, .int .i64 f.mr]), (w.heap.size + 1, 31, fC f)] wr) (fun i _ => 20 - (intOf i).toNat)
  case atStart => exact ⟨0, r, c, wp, by omega, by omega, rfl, HV.out⟩
  case round =>
    obtain ⟨k, x, y, z, hk, hk2, rfl, hbs⟩ := hrel
    have HB := Lib.hid hbs
    clear hbs HV
    by_cases hlt : k < l.length
    · by_cases h20 : k < 20
      · have hl1 : decide ((k : Int) < 20) = true := by simp; omega
        obtain ⟨ad, rfl, _, e0, e1, e2⟩ := (HRi.out.next HB.out.bel).at_ hlt
        have hn := HOk.out l[k] (List.getElem_mem hlt)
        have HD := Lib.hid (fun V => HDo.out x y z l[k].k l[k].n l[k].m hn V)
        clear hn e0 e1 e2
        have HRd := Lib.hid (fun w' (h : Below w.heap.size w w') => (HRi.out.next h).at_ hlt)
        generalize doR H it ib K.og l[k].k l[k].n x = x2 at *
        generalize doC W il ir K.og l[k].k l[k].n l[k].m y = y2 at *
        generalize doW l[k].k l[k].n y z = z2 at *
        generalize l[k].k = ak at *
        generalize l[k].n = an at *
        generalize l[k].m = am at *
        have HM := HMl.out
        go_upto_region 12 with fail
        have HX := Lib.hid (fun w' (h : Only [g2, w.heap.size] wr w') => fra8 (h.blk HB.out.b3 (by have := (HB.out.2.1); simp [List.pairwise_cons] at this ⊢; omega)))
        have HB2 := Lib.hid (fun w' (h : Only [g2, w.heap.size] wr w') => HB.out.bel.trans (h.below (B := w.heap.size) HB.out.bel.size (by have := HB.out.g0; simp <;> omega)))
        --#4
        have hne : g2 ≠ w.heap.size := by
          have := HB.out.2.1
          simp only [List.pairwise_cons, List.forall_mem_cons] at this
          exact this.1.1
        refine wp_region_mix_lit (by kernel_rfl) [(7, .call (.tuple #[.agg #[.int .i64 x2, .int .i64 y2, .int .u8 K.rd, .bool K.kp, .bool z2, .bool K.og, .int .i64 K.a, .int .i64 K.b, .int .i64 K.c, .int .i64 K.d, .int .i64 K.l, .int .i64 K.r, .int .i64 K.s], .agg #[.int .i64 x2, .int .i64 y2, .int .u8 K.rd, .bool K.kp, .bool z2, .bool K.og, .int .i64 K.a, .int .i64 K.b, .int .i64 K.c, .int .i64 K.d, .int .i64 K.l, .int .i64 K.r, .int .i64 K.s]])), (11, .store g2 44 #[.int .i64 x, .int .i64 y, .int .u8 K.rd, .bool K.kp, .bool z, .bool K.og, .int .i64 K.a, .int .i64 K.b, .int .i64 K.c, .int .i64 K.d, .int .i64 K.l, .int .i64 K.r, .int .i64 K.s] (fun _ => #[.int .i64 x2, .int .i64 y2, .int .u8 K.rd, .bool K.kp, .bool z2, .bool K.og, .int .i64 K.a, .int .i64 K.b, .int .i64 K.c, .int .i64 K.d, .int .i64 K.l, .int .i64 K.r, .int .i64 K.s])), (12, .store w.heap.size 27 #[.int .i64 x, .int .i64 y, .int .u8 K.rd, .bool K.kp, .bool z, .bool K.og, .int .i64 K.a, .int .i64 K.b, .int .i64 K.c, .int .i64 K.d, .int .i64 K.l, .int .i64 K.r, .int .i64 K.s] (fun _ => #[.int .i64 x2, .int .i64 y2, .int .u8 K.rd, .bool K.kp, .bool z2, .bool K.og, .int .i64 K.a, .int .i64 K.b, .int .i64 K.c, .int .i64 K.d, .int .i64 K.l, .int .i64 K.r, .int .i64 K.s]))] (by kernel_rfl) (by kernel_rfl) (by kernel_rfl) (by rfl) (by simp [apartK] <;> omega) (by simp [startK]; exact ⟨HB.out.b0, HB.out.b1⟩) (by simp [stabK]) (⟨fun _ => undef, by simp [okK]⟩) (fun β hβ => ?_)
        repeat (
          refine lex_val (v := ?_) rfl rfl (fun w' hf => ?_) ?_
          rotate_left
          · obtain ⟨i0, i1, i2, i3, i4, i5, i6, i7⟩ := HX.out w' hf.only; obtain ⟨_, hh, _, t0, t1, t2⟩ := HRd.out w' (HB2.out w' hf.only); obtain rfl := Option.some.inj hh; (try (have hb0 := hf.old 11 _ _ _ _ rfl (by kernel_rfl); obtain ⟨c0, c1, c2, c3, c4, c5, c6, c7, c8, c9, c10, c11, c12⟩ := cur13 hb0)); (try (have hb1 := hf.old 12 _ _ _ _ rfl (by kernel_rfl); obtain ⟨d0, d1, d2, d3, d4, d5, d6, d7, d8, d9, d10, d11, d12⟩ := cur13 hb1)); go_simp
            try rfl
          try simp only [Act.put, List.setIfInBounds_toArray, List.set_cons_zero, List.set_cons_succ])
        refine lex_call (f := 19) (args := ?_) rfl rfl (fun w' hf => ?_) (fun w' hf => ?_) ?_
        rotate_left
        · go_simp
          try rfl
        · exact HD.out w'
        try simp only [Act.put, List.setIfInBounds_toArray, List.set_cons_zero, List.set_cons_succ]
        repeat (
          refine lex_val (v := ?_) rfl rfl (fun w' hf => ?_) ?_
          rotate_left
          · go_simp
            try rfl
          try simp only [Act.put, List.setIfInBounds_toArray, List.set_cons_zero, List.set_cons_succ])
        refine lex_store rfl rfl (fun w' hf hB => ⟨_, ?_, put13_repl hB (.int .i64 x2) (.int .i64 y2) (.int .u8 K.rd) (.bool K.kp) (.bool z2) (.bool K.og) (.int .i64 K.a) (.int .i64 K.b) (.int .i64 K.c) (.int .i64 K.d) (.int .i64 K.l) (.int .i64 K.r) (.int .i64 K.s)⟩) ?_
        · obtain ⟨z0, z1, z2, z3, z4, z5, z6, z7, z8, z9, z10, z11, z12⟩ := fro13 hB
          obtain ⟨d0, d1, d2, d3, d4, d5, d6, d7, d8, d9, d10, d11, d12⟩ := cur13 hB
          unfold put13
          go_simp
        try simp only [Act.put]
        refine lex_store rfl rfl (fun w' hf hB => ⟨_, ?_, put13_repl hB (.int .i64 x2) (.int .i64 y2) (.int .u8 K.rd) (.bool K.kp) (.bool z2) (.bool K.og) (.int .i64 K.a) (.int .i64 K.b) (.int .i64 K.c) (.int .i64 K.d) (.int .i64 K.l) (.int .i64 K.r) (.int .i64 K.s)⟩) ?_
        · obtain ⟨z0, z1, z2, z3, z4, z5, z6, z7, z8, z9, z10, z11, z12⟩ := fro13 hB
          obtain ⟨d0, d1, d2, d3, d4, d5, d6, d7, d8, d9, d10, d11, d12⟩ := cur13 hB
          unfold put13
          go_simp
        try simp only [Act.put]
        refine lex_nil fun w7 he => ?_
        have hb8 : Blk w7 g2 44 #[.int .i64 x2, .int .i64 y2, .int .u8 K.rd, .bool K.kp, .bool z2, .bool K.og, .int .i64 K.a, .int .i64 K.b, .int .i64 K.c, .int .i64 K.d, .int .i64 K.l, .int .i64 K.r, .int .i64 K.s] := he.facts 11
        have hb9 : Blk w7 w.heap.size 27 #[.int .i64 x2, .int .i64 y2, .int .u8 K.rd, .bool K.kp, .bool z2, .bool K.og, .int .i64 K.a, .int .i64 K.b, .int .i64 K.c, .int .i64 K.d, .int .i64 K.l, .int .i64 K.r, .int .i64 K.s] := he.facts 12
        have HK7 := Lib.hid (Bs.mix2 HB.out he.only hb8 hb9)
        clear he hb8 hb9 HX hβ HB2
        --#5
        go_upto_region 13 with fail
        have HX := Lib.hid (fun w' (h : Only [] w7 w') => And.intro (cur13 (h.blk HK7.out.b0 (by simp))) (cur13 (h.blk HK7.out.b1 (by simp))))
        have HT := Lib.hid (fun V => HTo.out x2 y2 z2 V)
        refine wp_region_mix_lit (by kernel_rfl) [(1, .call (.agg #[.int .i64 x2, .int .i64 y2, .int .u8 K.rd, .bool K.kp, .bool z2, .bool K.og, .int .i64 K.a, .int .i64 K.b, .int .i64 K.c, .int .i64 K.d, .int .i64 K.l, .int .i64 K.r, .int .i64 K.s]))] (by kernel_rfl) (by kernel_rfl) (by kernel_rfl) (by rfl) (by simp [apartK] <;> omega) (by simp [startK]) (by simp [stabK]) (⟨fun _ => undef, by simp [okK]⟩) (fun β hβ => ?_)
        repeat (
          refine lex_val (v := ?_) rfl rfl (fun w' hf => ?_) ?_
          rotate_left
          · obtain ⟨⟨c0, c1, c2, c3, c4, c5, c6, c7, c8, c9, c10, c11, c12⟩, d0, d1, d2, d3, d4, d5, d6, d7, d8, d9, d10, d11, d12⟩ := HX.out w' hf.only; go_simp
            try rfl
          try simp only [Act.put, List.setIfInBounds_toArray, List.set_cons_zero, List.set_cons_succ])
        refine lex_call (f := 20) (args := ?_) rfl rfl (fun w' hf => ?_) (fun w' hf => ?_) ?_
        rotate_left
        · go_simp
          try rfl
        · exact HT.out w'
        try simp only [Act.put, List.setIfInBounds_toArray, List.set_cons_zero, List.set_cons_succ]
        repeat (
          refine lex_val (v := ?_) rfl rfl (fun w' hf => ?_) ?_
          rotate_left
          · obtain ⟨⟨c0, c1, c2, c3, c4, c5, c6, c7, c8, c9, c10, c11, c12⟩, d0, d1, d2, d3, d4, d5, d6, d7, d8, d9, d10, d11, d12⟩ := HX.out w' hf.only; have he := HE.out; have hg := HG.out; go_simp
            try rfl
          try simp only [Act.put, List.setIfInBounds_toArray, List.set_cons_zero, List.set_cons_succ])
        refine lex_nil fun w8 he => ?_
        have HK8 := Lib.hid (HK7.out.next he.only.below0)
        clear he HX hβ HK7
        go_wp2_with fail
        go_roundw
        case rel => exact ⟨k + 1, x2, y2, z2, by omega, by omega, by go_num, HK8.out⟩
        case measure => simp [intOf]; omega
      · have hl1 : decide ((k : Int) < 20) = false := by simp; omega
        --#6
        go_wp2_with fail
        refine (HN.out _).mono ?_
        rintro e w7 ⟨rfl, hb7⟩
        have HK7 := Lib.hid (HB.out.next hb7)
        clear hb7
        go_wp2_with fail
        refine (HNT.out _).mono ?_
        rintro e w8 ⟨rfl, hb8⟩
        have HK8 := Lib.hid (HK7.out.next hb8)
        clear hb8 HK7
        go_wp2_with fail
        refine (HRN.out _).mono ?_
        rintro e w9 ⟨rfl, hb9⟩
        have HK9 := Lib.hid (HK8.out.next hb9)
        clear hb9 HK8
        have he := HEq.out; have hg := HG.out
        go_wp2_with fail
        go_ret
        exact ⟨rfl, HK9.out.bel⟩
    · --#7
      go_wp2_with fail
      refine (HN.out _).mono ?_
      rintro e w7 ⟨rfl, hb7⟩
      have HK7 := Lib.hid (HB.out.next hb7)
      clear hb7
      go_wp2_with fail
      refine (HNT.out _).mono ?_
      rintro e w8 ⟨rfl, hb8⟩
      have HK8 := Lib.hid (HK7.out.next hb8)
      clear hb8 HK7
      go_wp2_with fail
      refine (HRN.out _).mono ?_
      rintro e w9 ⟨rfl, hb9⟩
      have HK9 := Lib.hid (HK8.out.next hb9)
      clear hb9 HK8
      have he := HEq.out; have hg := HG.out
      go_wp2_with fail
      go_ret
      exact ⟨rfl, HK9.out.bel⟩

set_option maxRecDepth 100000 in
/-- What the walk gives, for every argument and every world that holds the table. -/
theorem contract (H : Type) (enc : TypeId × Value → H) (W : World) (base : Nat) (args : Array Value) (ds gs : List (DataW H)) (before : List MemPlace)
    (hval : ∀ (j : Nat) t v, Try.f3.params[j]? = some t → args[j]? = some v → Value.okWide Try.prog W .any base t v)
    (hW : DataW.Whole enc Try.prog Try.f3.params.toList Rows.cursMovesSpec.vars false W args.toList ds gs before) (_hL : laidMetH Try.prog Rows.cursMovesRow.laid W)
    (hreach : (DataW.weightsEach Try.prog (Try.f3.params.toList ++ []) (ds ++ gs)).all (· ≤ reachBytes) = true) :
    Calls Try.prog 3 args W fun e W' => ∃ v, e = .returned v ∧ Rows.cursMovesSpec.post enc Try.prog Try.f3 false true false false W args v W' := by
  have hW' := hW
  clear _hL
  have hlts : ∀ x ∈ before, x.block < W.heap.size := fun x hx => hW'.lt x hx
  obtain ⟨p, q, hA0, hV, rfl, hfz, hnd⟩ := hW
  have hA : DataW.TrodAll enc Try.prog W 0 (fun _ => true) true Try.f3.params.toList args.toList ds p := hA0
  rw [Try.params3] at hA hval hreach
  obtain ⟨v0, vs0, d0, ds0, pp0, qq0, hargs, rfl, rfl, h0, rr0⟩ := trodAll_cons hA
  obtain ⟨v1, vs1, d1, ds1, pp1, qq1, rfl, rfl, rfl, h1, rr1⟩ := trodAll_cons rr0
  obtain ⟨v2, vs2, d2, ds2, pp2, qq2, rfl, rfl, rfl, h2, rr2⟩ := trodAll_cons rr1
  obtain ⟨rfl, rfl, rfl⟩ := trodAll_nil rr2
  obtain rfl : args = #[v0, v1, v2] := by cases args; simp_all
  obtain ⟨rfl, rfl⟩ := trodVars_none hV
  obtain ⟨r0, c0, wp0, K0, rfl⟩ := curs_in (hval 0 27 v0 rfl rfl) h0
  obtain ⟨f1, rfl⟩ := fram_in (hval 1 31 v1 rfl rfl) h1
  obtain ⟨b2, len2, cap2, rfl⟩ := okWide_slice Try.underlying32 (hval 2 32 v2 rfl rfl)
  obtain ⟨l2, hlen2, hm2, hok2, hri2⟩ := acts3_in h2
  subst hlen2
  clear hA0
  refine (walk r0 c0 wp0 K0 f1 b2 cap2 l2 hm2 hok2 W hri2).mono fun e W' ⟨he, hb⟩ => ?_
  subst he
  exact ⟨_, rfl, post_law laidOut (by kernel_rfl) (by kernel_rfl) rfl hW' rfl hb⟩

set_option maxRecDepth 100000 in
theorem laid_met (os : Os) : laidMet Try.prog Rows.cursMovesRow.laid ((laidWorld os).forCall (fun _ _ => 0) ⟨#[], #[Value.agg #[.int .i64 0, .int .i64 0, .int .u8 0, .bool false, .bool false, .bool false, .int .i64 0, .int .i64 0, .int .i64 0, .int .i64 0, .int .i64 0, .int .i64 0, .int .i64 0], Value.agg #[.int .i64 0, .int .i64 0, .int .i64 0, .int .i64 0, .int .i64 0, .int .i64 0, .int .i64 0, .int .i64 0], Value.slice none 0 0], []⟩).memory :=
  laidMet_of_run' 8 (by kernel_rfl) (by kernel_rfl)
set_option maxRecDepth 100000 in
theorem reads (os : Os) {H : Type} (enc : TypeId × Value → H) : ∃ places, DataW.whole enc Try.prog ((laidWorld os).forCall (fun _ _ => 0) ⟨#[], #[Value.agg #[.int .i64 0, .int .i64 0, .int .u8 0, .bool false, .bool false, .bool false, .int .i64 0, .int .i64 0, .int .i64 0, .int .i64 0, .int .i64 0, .int .i64 0, .int .i64 0], Value.agg #[.int .i64 0, .int .i64 0, .int .i64 0, .int .i64 0, .int .i64 0, .int .i64 0, .int .i64 0, .int .i64 0], Value.slice none 0 0], []⟩).memory Try.f3.params.toList Rows.cursMovesSpec.vars false (#[Value.agg #[.int .i64 0, .int .i64 0, .int .u8 0, .bool false, .bool false, .bool false, .int .i64 0, .int .i64 0, .int .i64 0, .int .i64 0, .int .i64 0, .int .i64 0, .int .i64 0], Value.agg #[.int .i64 0, .int .i64 0, .int .i64 0, .int .i64 0, .int .i64 0, .int .i64 0, .int .i64 0, .int .i64 0], Value.slice none 0 0] : Array Value).toList 8 = some ([.agg [.lit (.int .i64 0), .lit (.int .i64 0), .lit (.int .u8 0), .lit (.bool false), .lit (.bool false), .lit (.bool false), .agg [.agg [.lit (.int .i64 0), .lit (.int .i64 0), .lit (.int .i64 0), .lit (.int .i64 0)], .lit (.int .i64 0), .lit (.int .i64 0), .lit (.int .i64 0)]], .agg [.agg [.lit (.int .i64 0), .lit (.int .i64 0), .lit (.int .i64 0), .lit (.int .i64 0)], .agg [.lit (.int .i64 0), .lit (.int .i64 0), .lit (.int .i64 0), .lit (.int .i64 0)]], .nil], [], places) :=
  ⟨[], by kernel_rfl⟩

set_option maxRecDepth 100000 in
theorem lifted (os : Os) (started : os.Started) (H : Type) (enc : TypeId × Value → H) (F : Stop.Interp) :
    ReturnsInHanded {} Try.checked os 3 .any ((OpenSpec.ofChange Rows.cursMovesSpec).preRow enc Try.prog Try.f3 Rows.cursMovesRow.domain false Rows.cursMovesRow.laid) (((OpenSpec.ofChange Rows.cursMovesSpec).at F).post enc Try.prog Try.f3 false true false false) := by
  obtain ⟨places, hx⟩ := reads os enc
  refine returnsInHanded_of_row (C := Try.checked) (s := OpenSpec.ofChange Rows.cursMovesSpec) own started (by kernel_rfl) Try.func3
    (witness_row_at (enc := enc) (C := Try.checked) false (laidWorld os) #[Value.agg #[.int .i64 0, .int .i64 0, .int .u8 0, .bool false, .bool false, .bool false, .int .i64 0, .int .i64 0, .int .i64 0, .int .i64 0, .int .i64 0, .int .i64 0, .int .i64 0], Value.agg #[.int .i64 0, .int .i64 0, .int .i64 0, .int .i64 0, .int .i64 0, .int .i64 0, .int .i64 0, .int .i64 0], Value.slice none 0 0] rfl (by kernel_rfl) (by kernel_rfl) (by kernel_rfl)
      (OpenSpec.preRow_of_cond 8 hx (by kernel_rfl) (fun k hk => by cases hk) (by kernel_rfl) (laid_met os))) ?_
  intro W base args ds gs before hval hW _ _ hreach hL _ _
  exact contract H enc W base args ds gs before hval hW hL hreach

theorem said : Rows.CursMovesSaid :=
  OpenClaim.holds_of_cond 3 Try.f3 rfl rfl rfl rfl rfl rfl rfl ⟨rfl, rfl, rfl, rfl, rfl⟩ rfl rfl rfl rfl rfl (by kernel_rfl) Try.func3 (by kernel_rfl)
    (of_decide_eq_true (by kernel_rfl)) (by unfold Func.isWrapper; first | (rw [if_pos (by decide +kernel)]; kernel_rfl) | (rw [if_neg (by decide +kernel)]; exact ⟨rfl, rfl⟩))
    (fun os started H enc _ F => by rw [OpenClaim.pre_eq_preRow]; exact lifted os started H enc F)

#print axioms said
end Go.Proofs.Ytilfhilebdkmkaa.cursMoves

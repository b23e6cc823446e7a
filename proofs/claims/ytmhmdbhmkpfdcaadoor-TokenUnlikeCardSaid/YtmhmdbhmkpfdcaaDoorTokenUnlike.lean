/-
  TokenUnlike holds, whatever the input: the card of the statement, with the library's three tables tied to the program's text.
-/
import Derived.Test.YtmhmdbhmkpfdcaaDoorCards
import Derived.Test.YtmhmdbhmkpfdcaaDoorTie
import Derived.Test.YtmhmdbhmkpfdcaaDoorFrameP
import Derived.Test.YtmhmdbhmkpfdcaaDoorTokU
import Derived.Test.YtmhmdbhmkpfdcaaDoorFrameK
namespace Go.Proofs.YtmhmdbhmkpfdcaaDoor.tokenUnlike
open Go.ChangeShapes Go.WideShapes Go.ChangeAt Go.RowKit
open Go.ChangeMaps (open_string)

set_option maxRecDepth 100000 in
set_option maxHeartbeats 16000000 in
theorem walk (k : Int) (c m : Nat) (P : Option Addr) (ps : List Int) (pc : Nat) (s : ByteArray) (D : Option Addr) (dt : List Nat) (dc : Nat) (hp : ps.length ≤ 17592186043904) (hs : s.size ≤ maxLen) (hd : dt.length ≤ 140737488351232)
    (k2 : Int) (c2 m2 : Nat) (P2 : Option Addr) (ps2 : List Int) (pc2 : Nat) (s2 : ByteArray) (D2 : Option Addr) (dt2 : List Nat) (dc2 : Nat) (hp2 : ps2.length ≤ 17592186043904) (hs2 : s2.size ≤ maxLen) (hd2 : dt2.length ≤ 140737488351232) (ei : Bool)
    (w : World) (ht : Ten w) (hrb : (RInts w P ps ∧ RByt w D dt) ∧ c < 256 ∧ m < 256 ∧ ps.length ≤ pc ∧ ∀ n ∈ dt, n < 256) (hrb2 : (RInts w P2 ps2 ∧ RByt w D2 dt2) ∧ c2 < 256 ∧ m2 < 256 ∧ ps2.length ≤ pc2 ∧ ∀ n ∈ dt2, n < 256) :
    Calls Tryd.prog 4 #[.agg (tkC k (c : Int) (m : Int) P ps pc s D dt dc), .agg (tkC k2 (c2 : Int) (m2 : Int) P2 ps2 pc2 s2 D2 dt2 dc2), .bool ei] w fun e w' => e = .returned (.bool true) ∧ Below w.heap.size w w' := by
  obtain ⟨hrb, hc, hm, hpc, hdt⟩ := hrb
  obtain ⟨hrb2, hc2, hm2, hpc2, hdt2⟩ := hrb2
  have HT := Lib.hid ht; have HR := Lib.hid hrb; have HR2 := Lib.hid hrb2
  have HAw := Lib.hid (fun W t => tokAwake_any W t)
  have HK0 := Lib.hid (KW.start w 25 (tkC k (c : Int) (m : Int) P ps pc s D dt dc) (tkC k2 (c2 : Int) (m2 : Int) P2 ps2 pc2 s2 D2 dt2 dc2))
  have HC1 := Lib.hid (fun W h1 h2 => refCheck_any k c m P ps pc s D dt dc hs (by unfold maxLen; omega) (by unfold maxLen; omega) W h1 h2)
  have HC2 := Lib.hid (fun W h1 h2 => refCheck_any k2 c2 m2 P2 ps2 pc2 s2 D2 dt2 dc2 hs2 (by unfold maxLen; omega) (by unfold maxLen; omega) W h1 h2)
  rw [chk_same] at HC1 HC2
  have HV := Lib.hid (fun h h2 => unlike (k := k) (c := c) (m := m) (ps := ps) (s := s) (dt := dt) (k2 := k2) (c2 := c2) (m2 := m2) (ps2 := ps2) (s2 := s2) (dt2 := dt2) ei hc hm hdt hc2 hm2 hdt2 h h2)
  have HS := Lib.hid (fun P pc D dc P2 pc2 D2 dc2 W h1 h2 h3 h4 => same_any k c m P ps pc s D dt dc k2 c2 m2 P2 ps2 pc2 s2 D2 dt2 dc2 (by unfold maxLen; omega) (by unfold maxLen; omega) W h1 h2 h3 h4)
  have HSS := Lib.hid (fun P pc D dc P2 pc2 D2 dc2 W h1 h2 h3 h4 => same_any k c m P ps pc s D dt dc k c m P2 ps pc2 s D2 dt dc2 (by unfold maxLen; omega) (by unfold maxLen; omega) W h1 h2 h3 h4)
  rw [same_self] at HSS
  have HRS := Lib.hid (fun W h1 h2 h3 h4 => refSame_any k c m P ps pc s D dt dc k2 c2 m2 P2 ps2 pc2 s2 D2 dt2 dc2 (by unfold maxLen; omega) (by unfold maxLen; omega) W h1 h2 h3 h4)
  have HO1 := Lib.hid (fun B W hB h1 h2 => tl_own (B := B) (k := k) (c := c) (m := m) (P := P) (ps := ps) (pc := pc) (s := s) (D := D) (dt := dt) (dc := dc) (by omega) (by omega) (w := W) hB h1 h2)
  have HO2 := Lib.hid (fun B W hB h1 h2 => tl_own (B := B) (k := k2) (c := c2) (m := m2) (P := P2) (ps := ps2) (pc := pc2) (s := s2) (D := D2) (dt := dt2) (dc := dc2) (by omega) (by omega) (w := W) hB h1 h2)
  have HB1 := Lib.hid (fun hz P pc D dc hpc W t h1 h2 => bytes_zero k c m P ps pc s D dt dc hc hs (by unfold maxLen; omega) hpc (by unfold maxLen; omega) ei hz W t h1 h2)
  have HB2 := Lib.hid (fun hz P pc D dc hpc W t h1 h2 => bytes_zero k2 c2 m2 P ps2 pc s2 D dt2 dc hc2 hs2 (by unfold maxLen; omega) hpc (by unfold maxLen; omega) ei hz W t h1 h2)
  have HCv := Lib.hid (fun ns A n W (h : RByt W A ns) => conv_by h n)
  clear ht hrb hrb2 hc hm hpc hdt hc2 hm2 hpc2 hdt2 hp hs hd hp2 hs2 hd2
  generalize bytesL k c m ps s dt ei = l1 at *
  generalize bytesL k2 c2 m2 ps2 s2 dt2 ei = l2 at *
  generalize checkP k c m ps s dt = q1 at *
  generalize checkP k2 c2 m2 ps2 s2 dt2 = q2 at *
  generalize sameQ k c m ps s dt k2 c2 m2 ps2 s2 dt2 = qs at *

  unfold tkC at *
  go_enter Tryd.func4, Tryd.ntmps4
  go_upto_region 1 with fail
  generalize (w.alloc (.cells #[.int .i64 k, .int .u8 (c : Int), .int .u8 (m : Int), .slice P ps.length pc, .string s, .slice D dt.length dc] 25)).alloc (.cells #[.int .i64 k2, .int .u8 (c2 : Int), .int .u8 (m2 : Int), .slice P2 ps2.length pc2, .string s2, .slice D2 dt2.length dc2] 25) = w1 at *
  go_wp2_with fail
  refine (HAw.out _ (HT.out.next HK0.out.2.2)).mono ?_
  rintro e w2 ⟨rfl, hb2⟩
  have HK2 := Lib.hid (HK0.out.next hb2)
  clear hb2 HK0 HAw
  --#1
  go_upto_region 3 with fail
  refine wp_region_mix_lit (by kernel_rfl) [(1, .letter (TlP k c m ps s dt) (TlF w2.heap.size k c m ps s dt)), (3, .letter (TlP k2 c2 m2 ps2 s2 dt2) (TlF w2.heap.size k2 c2 m2 ps2 s2 dt2)), (4, .alloc 6 27 #[.int .i64 0, .int .u8 0, .int .u8 0, .slice none 0 0, .string ⟨#[]⟩, .slice none 0 0] (fun β => cellsV (β 1))), (5, .alloc 7 27 #[.int .i64 0, .int .u8 0, .int .u8 0, .slice none 0 0, .string ⟨#[]⟩, .slice none 0 0] (fun β => cellsV (β 3))), (6, .init 4), (7, .init 5)] (by kernel_rfl) (by kernel_rfl) (by kernel_rfl) (by rfl) (by simp [apartK] <;> omega) (by simp [startK]) (by simp only [List.forall_mem_cons, stabK]; exact ⟨tl_stab _ _ _ _ _ _ _ _ (by simp [boxes, Kind.boxed]) (by simp [boxes, Kind.boxed]), tl_stab _ _ _ _ _ _ _ _ (by simp [boxes, Kind.boxed]) (by simp [boxes, Kind.boxed]), trivial, trivial, trivial, trivial, by simp⟩) (⟨fun i => if i = 1 then .agg (tkC k (c : Int) (m : Int) none ps ps.length s none dt dt.length) else if i = 3 then .agg (tkC k2 (c2 : Int) (m2 : Int) none ps2 ps2.length s2 none dt2 dt2.length) else .pointer (some ⟨w2.heap.size, 0, none⟩), by simp only [List.forall_mem_cons, okK]; exact ⟨⟨_, _, _, _, rfl, Nat.le_refl _, Nat.le_refl _⟩, ⟨_, _, _, _, rfl, Nat.le_refl _, Nat.le_refl _⟩, ⟨_, rfl, Nat.le_refl _⟩, ⟨_, rfl, Nat.le_refl _⟩, trivial, trivial, by simp⟩⟩) (fun β hβ => ?_)
  obtain ⟨Px, px, Dx, dx, e1, hpx, hdx⟩ := (hβ 1 : TlP k c m ps s dt (β 1))
  obtain ⟨Py, py, Dy, dy, e3, hpy, hdy⟩ := (hβ 3 : TlP k2 c2 m2 ps2 s2 dt2 (β 3))
  have HPX := Lib.hid hpx; have HPY := Lib.hid hpy
  clear hpx hpy hdx hdy
  repeat (
    refine lex_val (v := ?_) rfl rfl (fun w' hf => ?_) ?_
    rotate_left
    · obtain ⟨a0, a1, a2, a3, a4, a5⟩ := six (HK2.out.1.next hf.only.below0); obtain ⟨b0, b1, b2, b3, b4, b5⟩ := six (HK2.out.2.1.next hf.only.below0); go_simp
      try rfl
    try simp only [Act.put, List.setIfInBounds_toArray, List.set_cons_zero, List.set_cons_succ])
  refine lex_letter (f := 8) (args := ?_) rfl rfl (fun w' hf => ?_) (fun w' hf => ?_) ?_
  rotate_left
  · obtain ⟨a0, a1, a2, a3, a4, a5⟩ := six (HK2.out.1.next hf.only.below0); obtain ⟨b0, b1, b2, b3, b4, b5⟩ := six (HK2.out.2.1.next hf.only.below0); go_simp
    try rfl
  · obtain ⟨a0, a1, a2, a3, a4, a5⟩ := six (HK2.out.1.next hf.only.below0); obtain ⟨b0, b1, b2, b3, b4, b5⟩ := six (HK2.out.2.1.next hf.only.below0); exact HO1.out _ w' hf.only.size (HR.out.1.next (HK2.out.2.2.trans (hf.only.below0.mono HK2.out.2.2.size))) (HR.out.2.next (HK2.out.2.2.trans (hf.only.below0.mono HK2.out.2.2.size)))
  try simp only [Act.put, List.setIfInBounds_toArray, List.set_cons_zero, List.set_cons_succ]
  repeat (
    refine lex_val (v := ?_) rfl rfl (fun w' hf => ?_) ?_
    rotate_left
    · obtain ⟨a0, a1, a2, a3, a4, a5⟩ := six (HK2.out.1.next hf.only.below0); obtain ⟨b0, b1, b2, b3, b4, b5⟩ := six (HK2.out.2.1.next hf.only.below0); go_simp
      try rfl
    try simp only [Act.put, List.setIfInBounds_toArray, List.set_cons_zero, List.set_cons_succ])
  refine lex_letter (f := 8) (args := ?_) rfl rfl (fun w' hf => ?_) (fun w' hf => ?_) ?_
  rotate_left
  · obtain ⟨a0, a1, a2, a3, a4, a5⟩ := six (HK2.out.1.next hf.only.below0); obtain ⟨b0, b1, b2, b3, b4, b5⟩ := six (HK2.out.2.1.next hf.only.below0); go_simp
    try rfl
  · obtain ⟨a0, a1, a2, a3, a4, a5⟩ := six (HK2.out.1.next hf.only.below0); obtain ⟨b0, b1, b2, b3, b4, b5⟩ := six (HK2.out.2.1.next hf.only.below0); exact HO2.out _ w' hf.only.size (HR2.out.1.next (HK2.out.2.2.trans (hf.only.below0.mono HK2.out.2.2.size))) (HR2.out.2.next (HK2.out.2.2.trans (hf.only.below0.mono HK2.out.2.2.size)))
  try simp only [Act.put, List.setIfInBounds_toArray, List.set_cons_zero, List.set_cons_succ]
  refine lex_alloc rfl rfl (fun w' => ?_) ?_
  · go_simp
  try simp only [Act.put, List.setIfInBounds_toArray, List.set_cons_zero, List.set_cons_succ]
  refine lex_alloc rfl rfl (fun w' => ?_) ?_
  · go_simp
  try simp only [Act.put, List.setIfInBounds_toArray, List.set_cons_zero, List.set_cons_succ]
  refine lex_init rfl rfl rfl (fun bl w' hb hf hB => ⟨_, ?_, (repl6 hB (.int .i64 k) (.int .u8 (c : Int)) (.int .u8 (m : Int)) (.slice Px ps.length px) (.string s) (.slice Dx dt.length dx)).as (by show _ = cellsV (β 1); rw [e1]; rfl)⟩) ?_
  · obtain ⟨z0, z1, z2, z3, z4, z5⟩ := six hB
    obtain ⟨f0, f1, f2, f3, f4, f5⟩ := six_fr hB
    unfold put6
    unfold tkC at e1
    go_simp
  try simp only [Act.put]
  refine lex_init rfl rfl rfl (fun bl w' hb hf hB => ⟨_, ?_, (repl6 hB (.int .i64 k2) (.int .u8 (c2 : Int)) (.int .u8 (m2 : Int)) (.slice Py ps2.length py) (.string s2) (.slice Dy dt2.length dy)).as (by show _ = cellsV (β 3); rw [e3]; rfl)⟩) ?_
  · obtain ⟨z0, z1, z2, z3, z4, z5⟩ := six hB
    obtain ⟨f0, f1, f2, f3, f4, f5⟩ := six_fr hB
    unfold put6
    unfold tkC at e3
    go_simp
  try simp only [Act.put]
  refine lex_nil fun w5 he => ?_
  obtain ⟨g1, hg1, hge1, hk1⟩ := he.facts 4
  obtain ⟨g2, hg2, hge2, hk2⟩ := he.facts 5
  replace hk1 : Blk w5 g1 27 (cellsV (β 1)) := hk1
  replace hk2 : Blk w5 g2 27 (cellsV (β 3)) := hk2
  have hf1 : TlF w2.heap.size k c m ps s dt (β 1) w5 := (he.facts 1).2
  have hf3 : TlF w2.heap.size k2 c2 m2 ps2 s2 dt2 (β 3) w5 := (he.facts 3).2
  rw [e1] at hk1 hf1
  rw [e3] at hk2 hf3
  have HF1 := Lib.hid (tl_same hf1); have HF3 := Lib.hid (tl_same hf3)
  have HX1 := Lib.hid (show Blk w5 g1 27 #[.int .i64 k, .int .u8 (c : Int), .int .u8 (m : Int), .slice Px ps.length px, .string s, .slice Dx dt.length dx] from hk1)
  have HX2 := Lib.hid (show Blk w5 g2 27 #[.int .i64 k2, .int .u8 (c2 : Int), .int .u8 (m2 : Int), .slice Py ps2.length py, .string s2, .slice Dy dt2.length dy] from hk2)
  have HK5 := Lib.hid (HK2.out.next he.only.below0)
  rw [hg1, hg2]
  clear he hk1 hk2 hf1 hf3 hg1 hg2 hge1 hge2 HO2 HK2 e1 e3 hβ
  --#2
  go_upto_region 4 with fail
  refine wp_region_mix_lit (by kernel_rfl) [(2, .call (.bool qs)), (5, .call (.bool qs)), (10, .letter (TlP k c m ps s dt) (TlF w5.heap.size k c m ps s dt)), (11, .call (.bool true))] (by kernel_rfl) (by kernel_rfl) (by kernel_rfl) (by rfl) (by simp [apartK] <;> omega) (by simp [startK]) (by simp only [List.forall_mem_cons, stabK]; exact ⟨trivial, trivial, tl_stab _ _ _ _ _ _ _ _ (by simp [boxes, Kind.boxed]) (by simp [boxes, Kind.boxed]), trivial, by simp⟩) (⟨fun i => .agg (tkC k (c : Int) (m : Int) none ps ps.length s none dt dt.length), by simp only [List.forall_mem_cons, okK]; exact ⟨trivial, trivial, ⟨_, _, _, _, rfl, Nat.le_refl _, Nat.le_refl _⟩, trivial, by simp⟩⟩) (fun β hβ => ?_)
  obtain ⟨Pz, pz, Dz, dz, e10, _, _⟩ := (hβ 10 : TlP k c m ps s dt (β 10))
  repeat (
    refine lex_val (v := ?_) rfl rfl (fun w' hf => ?_) ?_
    rotate_left
    · obtain ⟨a0, a1, a2, a3, a4, a5⟩ := six (HK5.out.1.next hf.only.below0); obtain ⟨b0, b1, b2, b3, b4, b5⟩ := six (HK5.out.2.1.next hf.only.below0); obtain ⟨x0, x1, x2, x3, x4, x5⟩ := six (HX1.out.next hf.only.below0); obtain ⟨y0, y1, y2, y3, y4, y5⟩ := six (HX2.out.next hf.only.below0); go_simp
      try rfl
    try simp only [Act.put, List.setIfInBounds_toArray, List.set_cons_zero, List.set_cons_succ])
  refine lex_call (f := 17) (args := ?_) rfl rfl (fun w' hf => ?_) (fun w' hf => ?_) ?_
  rotate_left
  · obtain ⟨a0, a1, a2, a3, a4, a5⟩ := six (HK5.out.1.next hf.only.below0); obtain ⟨b0, b1, b2, b3, b4, b5⟩ := six (HK5.out.2.1.next hf.only.below0); obtain ⟨x0, x1, x2, x3, x4, x5⟩ := six (HX1.out.next hf.only.below0); obtain ⟨y0, y1, y2, y3, y4, y5⟩ := six (HX2.out.next hf.only.below0); go_simp
    try rfl
  · obtain ⟨a0, a1, a2, a3, a4, a5⟩ := six (HK5.out.1.next hf.only.below0); obtain ⟨b0, b1, b2, b3, b4, b5⟩ := six (HK5.out.2.1.next hf.only.below0); obtain ⟨x0, x1, x2, x3, x4, x5⟩ := six (HX1.out.next hf.only.below0); obtain ⟨y0, y1, y2, y3, y4, y5⟩ := six (HX2.out.next hf.only.below0); exact HS.out Px px Dx dx Py py Dy dy w' (RInts.next (OInts.reads HF1.out.1) hf.only.below0) (RInts.next (OInts.reads HF3.out.1) hf.only.below0) (OByt.reads (OByt.next HF1.out.2 hf.only.below0)) (OByt.reads (OByt.next HF3.out.2 hf.only.below0))
  try simp only [Act.put, List.setIfInBounds_toArray, List.set_cons_zero, List.set_cons_succ]
  repeat (
    refine lex_val (v := ?_) rfl rfl (fun w' hf => ?_) ?_
    rotate_left
    · obtain ⟨a0, a1, a2, a3, a4, a5⟩ := six (HK5.out.1.next hf.only.below0); obtain ⟨b0, b1, b2, b3, b4, b5⟩ := six (HK5.out.2.1.next hf.only.below0); obtain ⟨x0, x1, x2, x3, x4, x5⟩ := six (HX1.out.next hf.only.below0); obtain ⟨y0, y1, y2, y3, y4, y5⟩ := six (HX2.out.next hf.only.below0); go_simp
      try rfl
    try simp only [Act.put, List.setIfInBounds_toArray, List.set_cons_zero, List.set_cons_succ])
  refine lex_call (f := 11) (args := ?_) rfl rfl (fun w' hf => ?_) (fun w' hf => ?_) ?_
  rotate_left
  · obtain ⟨a0, a1, a2, a3, a4, a5⟩ := six (HK5.out.1.next hf.only.below0); obtain ⟨b0, b1, b2, b3, b4, b5⟩ := six (HK5.out.2.1.next hf.only.below0); obtain ⟨x0, x1, x2, x3, x4, x5⟩ := six (HX1.out.next hf.only.below0); obtain ⟨y0, y1, y2, y3, y4, y5⟩ := six (HX2.out.next hf.only.below0); go_simp
    try rfl
  · obtain ⟨a0, a1, a2, a3, a4, a5⟩ := six (HK5.out.1.next hf.only.below0); obtain ⟨b0, b1, b2, b3, b4, b5⟩ := six (HK5.out.2.1.next hf.only.below0); obtain ⟨x0, x1, x2, x3, x4, x5⟩ := six (HX1.out.next hf.only.below0); obtain ⟨y0, y1, y2, y3, y4, y5⟩ := six (HX2.out.next hf.only.below0); exact HRS.out w' (HR.out.1.next (HK5.out.2.2.trans (hf.only.below0.mono HK5.out.2.2.size))) (HR2.out.1.next (HK5.out.2.2.trans (hf.only.below0.mono HK5.out.2.2.size))) (HR.out.2.next (HK5.out.2.2.trans (hf.only.below0.mono HK5.out.2.2.size))) (HR2.out.2.next (HK5.out.2.2.trans (hf.only.below0.mono HK5.out.2.2.size)))
  try simp only [Act.put, List.setIfInBounds_toArray, List.set_cons_zero, List.set_cons_succ]
  repeat (
    refine lex_val (v := ?_) rfl rfl (fun w' hf => ?_) ?_
    rotate_left
    · obtain ⟨a0, a1, a2, a3, a4, a5⟩ := six (HK5.out.1.next hf.only.below0); obtain ⟨b0, b1, b2, b3, b4, b5⟩ := six (HK5.out.2.1.next hf.only.below0); obtain ⟨x0, x1, x2, x3, x4, x5⟩ := six (HX1.out.next hf.only.below0); obtain ⟨y0, y1, y2, y3, y4, y5⟩ := six (HX2.out.next hf.only.below0); go_simp
      try rfl
    try simp only [Act.put, List.setIfInBounds_toArray, List.set_cons_zero, List.set_cons_succ])
  refine lex_letter (f := 8) (args := ?_) rfl rfl (fun w' hf => ?_) (fun w' hf => ?_) ?_
  rotate_left
  · obtain ⟨a0, a1, a2, a3, a4, a5⟩ := six (HK5.out.1.next hf.only.below0); obtain ⟨b0, b1, b2, b3, b4, b5⟩ := six (HK5.out.2.1.next hf.only.below0); obtain ⟨x0, x1, x2, x3, x4, x5⟩ := six (HX1.out.next hf.only.below0); obtain ⟨y0, y1, y2, y3, y4, y5⟩ := six (HX2.out.next hf.only.below0); go_simp
    try rfl
  · obtain ⟨a0, a1, a2, a3, a4, a5⟩ := six (HK5.out.1.next hf.only.below0); obtain ⟨b0, b1, b2, b3, b4, b5⟩ := six (HK5.out.2.1.next hf.only.below0); obtain ⟨x0, x1, x2, x3, x4, x5⟩ := six (HX1.out.next hf.only.below0); obtain ⟨y0, y1, y2, y3, y4, y5⟩ := six (HX2.out.next hf.only.below0); exact HO1.out _ w' hf.only.size (HR.out.1.next (HK5.out.2.2.trans (hf.only.below0.mono HK5.out.2.2.size))) (HR.out.2.next (HK5.out.2.2.trans (hf.only.below0.mono HK5.out.2.2.size)))
  try simp only [Act.put, List.setIfInBounds_toArray, List.set_cons_zero, List.set_cons_succ]
  refine lex_call (f := 17) (args := ?_) rfl rfl (fun w' hf => ?_) (fun w' hf => ?_) ?_
  rotate_left
  · unfold tkC at e10; go_simp
    try rfl
  · skip
    have hgz : TlF w5.heap.size k c m ps s dt (β 10) w' := hf.got 10 _ _ rfl (by kernel_rfl)
    rw [e10] at hgz
    have hz := tl_same hgz
    exact HSS.out Px px Dx dx Pz pz Dz dz w' (RInts.next (OInts.reads HF1.out.1) hf.only.below0) (OInts.reads hz.1) (OByt.reads (OByt.next HF1.out.2 hf.only.below0)) (OByt.reads hz.2)
  try simp only [Act.put, List.setIfInBounds_toArray, List.set_cons_zero, List.set_cons_succ]
  repeat (
    refine lex_val (v := ?_) rfl rfl (fun w' hf => ?_) ?_
    rotate_left
    · go_simp
      try rfl
    try simp only [Act.put, List.setIfInBounds_toArray, List.set_cons_zero, List.set_cons_succ])
  refine lex_nil fun w6 he => ?_
  have HK6 := Lib.hid (HK5.out.next he.only.below0)
  have HX61 := Lib.hid (HX1.out.next he.only.below0); have HX62 := Lib.hid (HX2.out.next he.only.below0)
  have HD1 := Lib.hid (And.intro (RInts.next (OInts.reads HF1.out.1) he.only.below0) (OByt.reads (OByt.next HF1.out.2 he.only.below0)))
  have HD2 := Lib.hid (And.intro (RInts.next (OInts.reads HF3.out.1) he.only.below0) (OByt.reads (OByt.next HF3.out.2 he.only.below0)))
  clear he HK5 HX1 HX2 HF1 HF3 HSS HS HO1 hβ e10
  --#3
  obtain ⟨a0, a1, a2, a3, a4, a5⟩ := six HK6.out.1
  go_wp2_with fail
  refine (HC1.out _ (HR.out.1.next HK6.out.2.2) (HR.out.2.next HK6.out.2.2)).mono ?_
  rintro e w7 ⟨rfl, hb7⟩
  have HK7 := Lib.hid (HK6.out.next hb7)
  have HX71 := Lib.hid (HX61.out.next hb7); have HX72 := Lib.hid (HX62.out.next hb7)
  have HD71 := Lib.hid (And.intro (HD1.out.1.next hb7) (HD1.out.2.next hb7)); have HD72 := Lib.hid (And.intro (HD2.out.1.next hb7) (HD2.out.2.next hb7))
  clear hb7 HK6 HX61 HX62 HD1 HD2 a0 a1 a2 a3 a4 a5 HC1
  obtain ⟨b0, b1, b2, b3, b4, b5⟩ := six HK7.out.2.1
  by_cases z1 : q1 = 0
  · subst z1
    go_wp2_with fail
    refine (HC2.out _ (HR2.out.1.next HK7.out.2.2) (HR2.out.2.next HK7.out.2.2)).mono ?_
    rintro e w8 ⟨rfl, hb8⟩
    have HK8 := Lib.hid (HK7.out.next hb8)
    have HX81 := Lib.hid (HX71.out.next hb8); have HX82 := Lib.hid (HX72.out.next hb8)
    have HD81 := Lib.hid (And.intro (HD71.out.1.next hb8) (HD71.out.2.next hb8)); have HD82 := Lib.hid (And.intro (HD72.out.1.next hb8) (HD72.out.2.next hb8))
    clear hb8 HK7 HX71 HX72 HD71 HD72 b0 b1 b2 b3 b4 b5 HC2
    by_cases z2 : q2 = 0
    · subst z2
      have HE := Lib.hid (HV.out (by simp) (by simp))
      obtain ⟨x0, x1, x2, x3, x4, x5⟩ := six HX81.out
      go_wp2_with fail
      refine (HB1.out (by simp) Px px Dx dx HPX.out _ (HT.out.next HK8.out.2.2) HD81.out.1 HD81.out.2).mono ?_
      rintro e w9 ⟨A1, n1, rfl, hl1, hb9⟩
      have HL1 := Lib.hid hl1
      have HK9 := Lib.hid (HK8.out.next hb9)
      have HX92 := Lib.hid (HX82.out.next hb9)
      have HD92 := Lib.hid (And.intro (HD82.out.1.next hb9) (HD82.out.2.next hb9))
      clear hb9 hl1 HK8 HX81 HX82 HD81 HD82 x0 x1 x2 x3 x4 x5 HB1
      obtain ⟨x0, x1, x2, x3, x4, x5⟩ := six HX92.out
      go_wp2_with fail
      refine (HB2.out (by simp) Py py Dy dy HPY.out _ (HT.out.next HK9.out.2.2) HD92.out.1 HD92.out.2).mono ?_
      rintro e w10 ⟨A2, n2, rfl, hl2, hb10⟩
      have HL2 := Lib.hid hl2
      have HL3 := Lib.hid (HL1.out.next hb10)
      have HK5 := Lib.hid (HK9.out.next hb10)
      clear hb10 hl2 HK9 HX92 HD92 x0 x1 x2 x3 x4 x5 HB2 HL1 HV
      --#4
      go_upto_region 10 with fail
      refine wp_region_mix_lit (by kernel_rfl) [(14, .call (.bool qs))] (by kernel_rfl) (by kernel_rfl) (by kernel_rfl) (by rfl) (by simp [apartK] <;> omega) (by simp [startK]) (by simp [stabK]) (⟨fun _ => undef, by simp [okK]⟩) (fun β hβ => ?_)
      repeat (
        refine lex_val (v := ?_) rfl rfl (fun w' hf => ?_) ?_
        rotate_left
        · obtain ⟨a0, a1, a2, a3, a4, a5⟩ := six (HK5.out.1.next hf.only.below0); obtain ⟨b0, b1, b2, b3, b4, b5⟩ := six (HK5.out.2.1.next hf.only.below0); have v1 := HCv.out l1 A1 n1 w' (HL3.out.next hf.only.below0); have v2 := HCv.out l2 A2 n2 w' (HL2.out.next hf.only.below0); go_simp
          try rfl
        try simp only [Act.put, List.setIfInBounds_toArray, List.set_cons_zero, List.set_cons_succ])
      refine lex_call (f := 11) (args := ?_) rfl rfl (fun w' hf => ?_) (fun w' hf => ?_) ?_
      rotate_left
      · obtain ⟨a0, a1, a2, a3, a4, a5⟩ := six (HK5.out.1.next hf.only.below0); obtain ⟨b0, b1, b2, b3, b4, b5⟩ := six (HK5.out.2.1.next hf.only.below0); go_simp
        try rfl
      · obtain ⟨a0, a1, a2, a3, a4, a5⟩ := six (HK5.out.1.next hf.only.below0); obtain ⟨b0, b1, b2, b3, b4, b5⟩ := six (HK5.out.2.1.next hf.only.below0); exact HRS.out w' (HR.out.1.next (HK5.out.2.2.trans (hf.only.below0.mono HK5.out.2.2.size))) (HR2.out.1.next (HK5.out.2.2.trans (hf.only.below0.mono HK5.out.2.2.size))) (HR.out.2.next (HK5.out.2.2.trans (hf.only.below0.mono HK5.out.2.2.size))) (HR2.out.2.next (HK5.out.2.2.trans (hf.only.below0.mono HK5.out.2.2.size)))
      try simp only [Act.put, List.setIfInBounds_toArray, List.set_cons_zero, List.set_cons_succ]
      repeat (
        refine lex_val (v := ?_) rfl rfl (fun w' hf => ?_) ?_
        rotate_left
        · have hE := HE.out; go_simp
          try rfl
        try simp only [Act.put, List.setIfInBounds_toArray, List.set_cons_zero, List.set_cons_succ])
      refine lex_nil fun w11 he => ?_
      have HB9 := Lib.hid (HK5.out.next he.only.below0).2.2
      clear he
      go_wp2_with fail
      go_ret
      exact ⟨rfl, HB9.out⟩
    · have t2 : (q2 != 0) = true := by simpa using z2
      clear z2
      go_wp2_with fail
      go_ret
      exact ⟨rfl, HK8.out.2.2⟩
  · have t1 : (q1 != 0) = true := by simpa using z1
    clear z1
    go_wp2_with fail
    go_ret
    exact ⟨rfl, HK7.out.2.2⟩

set_option maxRecDepth 100000 in
/-- What the walk gives, for every argument and every world that holds the table. -/
theorem contract (H : Type) (enc : TypeId × Value → H) (W : World) (base : Nat) (args : Array Value) (ds gs : List (DataW H)) (before : List MemPlace)
    (hval : ∀ (j : Nat) t v, Tryd.f4.params[j]? = some t → args[j]? = some v → Value.okWide Tryd.prog W .any base t v)
    (hW : DataW.Whole enc Tryd.prog Tryd.f4.params.toList Rows.tokenUnlikeSpec.vars false W args.toList ds gs before) (hL : laidMetH Tryd.prog Rows.tokenUnlikeRow.laid W)
    (hreach : (DataW.weightsEach Tryd.prog (Tryd.f4.params.toList ++ []) (ds ++ gs)).all (· ≤ reachBytes) = true) :
    Calls Tryd.prog 4 args W fun e W' => ∃ v, e = .returned v ∧ Rows.tokenUnlikeSpec.post enc Tryd.prog Tryd.f4 false true false false W args v W' := by
  have hW' := hW
  have ht := ten_of hL
  have hlts : ∀ x ∈ before, x.block < W.heap.size := fun x hx => hW'.lt x hx
  obtain ⟨p, q, hA0, hV, rfl, hfz, hnd⟩ := hW
  have hA : DataW.TrodAll enc Tryd.prog W 0 (fun _ => true) true Tryd.f4.params.toList args.toList ds p := hA0
  rw [Tryd.params4] at hA hval hreach
  obtain ⟨v0, vs0, d0, ds0, pp0, qq0, hargs, rfl, rfl, h0, rr0⟩ := trodAll_cons hA
  obtain ⟨v1, vs1, d1, ds1, pp1, qq1, rfl, rfl, rfl, h1, rr1⟩ := trodAll_cons rr0
  obtain ⟨v2, vs2, d2, ds2, pp2, qq2, rfl, rfl, rfl, h2, rr2⟩ := trodAll_cons rr1
  obtain ⟨rfl, rfl, rfl⟩ := trodAll_nil rr2
  obtain rfl : args = #[v0, v1, v2] := by cases args; simp_all
  obtain ⟨rfl, rfl⟩ := trodVars_none hV
  obtain ⟨k0, c0, m0, P0, ps0, pc0, s0, D0, dt0, dc0, rfl, hcc0, hmm0, hp0, hpp0, hs0, hd0, _, hdd0, hrp0, hrb0⟩ := tok_in (hval 0 25 v0 rfl rfl) h0 (by rw [List.all_eq_true]; exact fun n hn => List.all_eq_true.1 hreach n (DataW.weights_mem_each (j := 0) rfl rfl n hn))
  have hri0 := And.intro (And.intro hrp0 hrb0) (And.intro hcc0 (And.intro hmm0 (And.intro hpp0 hdd0)))
  obtain ⟨k1, c1, m1, P1, ps1, pc1, s1, D1, dt1, dc1, rfl, hcc1, hmm1, hp1, hpp1, hs1, hd1, _, hdd1, hrp1, hrb1⟩ := tok_in (hval 1 25 v1 rfl rfl) h1 (by rw [List.all_eq_true]; exact fun n hn => List.all_eq_true.1 hreach n (DataW.weights_mem_each (j := 1) rfl rfl n hn))
  have hri1 := And.intro (And.intro hrp1 hrb1) (And.intro hcc1 (And.intro hmm1 (And.intro hpp1 hdd1)))
  obtain ⟨a2, rfl, rfl, rfl⟩ := open_bool Tryd.underlying4 (hval 2 4 v2 rfl rfl) h2
  clear hA0
  refine (walk k0 c0 m0 P0 ps0 pc0 s0 D0 dt0 dc0 hp0 hs0 hd0 k1 c1 m1 P1 ps1 pc1 s1 D1 dt1 dc1 hp1 hs1 hd1 a2 W ht hri0 hri1).mono fun e W' ⟨he, hb⟩ => ?_
  subst he
  exact ⟨_, rfl, post_law laidOut (by kernel_rfl) (by kernel_rfl) rfl hW' rfl hb⟩

set_option maxRecDepth 100000 in
theorem laid_met (os : Os) : laidMet Tryd.prog Rows.tokenUnlikeRow.laid ((laidWorld os).forCall (fun _ _ => 0) ⟨#[], #[Value.agg #[.int .i64 0, .int .u8 0, .int .u8 0, .slice none 0 0, .string ⟨#[]⟩, .slice none 0 0], Value.agg #[.int .i64 0, .int .u8 0, .int .u8 0, .slice none 0 0, .string ⟨#[]⟩, .slice none 0 0], Value.bool false], []⟩).memory :=
  laidMet_of_run' 8 (by kernel_rfl) (by kernel_rfl)
set_option maxRecDepth 100000 in
theorem reads (os : Os) {H : Type} (enc : TypeId × Value → H) : ∃ places, DataW.whole enc Tryd.prog ((laidWorld os).forCall (fun _ _ => 0) ⟨#[], #[Value.agg #[.int .i64 0, .int .u8 0, .int .u8 0, .slice none 0 0, .string ⟨#[]⟩, .slice none 0 0], Value.agg #[.int .i64 0, .int .u8 0, .int .u8 0, .slice none 0 0, .string ⟨#[]⟩, .slice none 0 0], Value.bool false], []⟩).memory Tryd.f4.params.toList Rows.tokenUnlikeSpec.vars false (#[Value.agg #[.int .i64 0, .int .u8 0, .int .u8 0, .slice none 0 0, .string ⟨#[]⟩, .slice none 0 0], Value.agg #[.int .i64 0, .int .u8 0, .int .u8 0, .slice none 0 0, .string ⟨#[]⟩, .slice none 0 0], Value.bool false] : Array Value).toList 8 = some ([.agg [.lit (.int .i64 0), .lit (.int .u8 0), .lit (.int .u8 0), .nil, .lit (.string []), .nil], .agg [.lit (.int .i64 0), .lit (.int .u8 0), .lit (.int .u8 0), .nil, .lit (.string []), .nil], .lit (.bool false)], [], places) :=
  ⟨[], by kernel_rfl⟩

set_option maxRecDepth 100000 in
theorem lifted (os : Os) (started : os.Started) (H : Type) (enc : TypeId × Value → H) (F : Stop.Interp) :
    ReturnsInHanded {} Tryd.checked os 4 .any ((OpenSpec.ofChange Rows.tokenUnlikeSpec).preRow enc Tryd.prog Tryd.f4 Rows.tokenUnlikeRow.domain false Rows.tokenUnlikeRow.laid) (((OpenSpec.ofChange Rows.tokenUnlikeSpec).at F).post enc Tryd.prog Tryd.f4 false true false false) := by
  obtain ⟨places, hx⟩ := reads os enc
  refine returnsInHanded_of_row (C := Tryd.checked) (s := OpenSpec.ofChange Rows.tokenUnlikeSpec) own started (by kernel_rfl) Tryd.func4
    (witness_row_at (enc := enc) (C := Tryd.checked) false (laidWorld os) #[Value.agg #[.int .i64 0, .int .u8 0, .int .u8 0, .slice none 0 0, .string ⟨#[]⟩, .slice none 0 0], Value.agg #[.int .i64 0, .int .u8 0, .int .u8 0, .slice none 0 0, .string ⟨#[]⟩, .slice none 0 0], Value.bool false] rfl (by kernel_rfl) (by kernel_rfl) (by kernel_rfl)
      (OpenSpec.preRow_of_cond 8 hx (by kernel_rfl) (fun k hk => by cases hk) (by kernel_rfl) (laid_met os))) ?_
  intro W base args ds gs before hval hW _ _ hreach hL _ _
  exact contract H enc W base args ds gs before hval hW hL hreach

theorem said : Rows.TokenUnlikeSaid :=
  OpenClaim.holds_of_cond 4 Tryd.f4 rfl rfl rfl rfl rfl rfl rfl ⟨rfl, rfl, rfl, rfl, rfl⟩ rfl rfl rfl rfl rfl (by kernel_rfl) Tryd.func4 (by kernel_rfl)
    (of_decide_eq_true (by kernel_rfl)) (by unfold Func.isWrapper; first | (rw [if_pos (by decide +kernel)]; kernel_rfl) | (rw [if_neg (by decide +kernel)]; exact ⟨rfl, rfl⟩))
    (fun os started H enc _ F => by rw [OpenClaim.pre_eq_preRow]; exact lifted os started H enc F)

theorem plain (f : FuncId) (fn : Func) (hf : Tryd.pinned.checked.prog.funcNamed "phosphor/phosphorlaw11.TokenUnlike" = some f) (hfn : Tryd.pinned.checked.prog.funcs[f]? = some fn) :
    false = Tryd.pinned.checked.prog.looks [] ∧ ∀ (j : Nat) t, fn.params[j]? = some t → Tryd.pinned.checked.prog.wantsStandIn t = false := by
  obtain rfl : f = 4 := Option.some.inj ((show Tryd.prog.funcNamed "phosphor/phosphorlaw11.TokenUnlike" = some 4 by kernel_rfl).symm.trans hf) |>.symm
  obtain rfl : fn = Tryd.f4 := (Option.some.inj (Tryd.func4.symm.trans hfn)).symm
  refine ⟨by kernel_rfl, fun j t ht => ?_⟩
  rw [Tryd.params4] at ht
  have hm : t ∈ [25, 25, 4] := by simpa using Array.mem_of_getElem? ht
  have hall : ([25, 25, 4].all fun u => !Tryd.prog.wantsStandIn u) = true := by kernel_rfl
  exact (show Tryd.prog.wantsStandIn t = false by simpa using List.all_eq_true.1 hall t hm)

/-- The card. -/
theorem card : Rows.TokenUnlikeCardSaid :=
  Claim7.holds_tied_plain_at .later [] _ _ _ _ said (fun _ h => by cases h) (by kernel_rfl) (fun _ h => by cases h) tokenUnlike_row_tie rfl ⟨rfl, rfl⟩ (by kernel_rfl) rfl plain (by kernel_rfl)
#print axioms card
end Go.Proofs.YtmhmdbhmkpfdcaaDoor.tokenUnlike

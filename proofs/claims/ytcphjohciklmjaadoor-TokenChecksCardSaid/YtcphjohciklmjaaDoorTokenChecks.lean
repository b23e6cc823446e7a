/-
  TokenChecks holds, whatever the input: the card of the statement, with the library's three tables tied to the program's text.
-/
import Derived.Test.YtcphjohciklmjaaDoorCards
import Derived.Test.YtcphjohciklmjaaDoorTie
import Derived.Test.YtcphjohciklmjaaDoorFrameP
import Derived.Test.YtcphjohciklmjaaDoorTokY
import Derived.Test.YtcphjohciklmjaaDoorFrameK
namespace Go.Proofs.YtcphjohciklmjaaDoor.tokenChecks
open Go.ChangeShapes Go.WideShapes Go.ChangeAt Go.RowKit
open Go.ChangeMaps (open_string)

/-- Bytes that a call answers, as a letter. -/
def BtP (l : List Nat) (u : Value) : Prop := ∃ A n, u = .slice A l.length n
def BtF (B : Nat) (l : List Nat) (u : Value) (W : World) : Prop := OByt W B u l
theorem bt_stab (ks : Kinds) (wr : World) (l : List Nat) (h : 5 ∉ boxes ks) : ∀ v w w', Kept ks wr w w' → BtF wr.heap.size l v w → BtF wr.heap.size l v w' := fun _ _ _ hk ho => own_stab2 h hk ho
/-- What is kept from round to round. -/
def TC (w : World) (g2 : Nat) (x1 x2 : Array Value) (Px : Option Addr) (ps : List Int) (Dx : Option Addr) (dt : List Nat) (W : World) : Prop :=
  Blk W w.heap.size 25 x1 ∧ Blk W g2 27 x2 ∧ Below w.heap.size w W ∧ RInts W Px ps ∧ RByt W Dx dt
theorem TC.next {w W W' : World} {g2 : Nat} {x1 x2 : Array Value} {Px : Option Addr} {ps : List Int} {Dx : Option Addr} {dt : List Nat} (h : TC w g2 x1 x2 Px ps Dx dt W) (hb : Below W.heap.size W W') : TC w g2 x1 x2 Px ps Dx dt W' :=
  ⟨h.1.next hb, h.2.1.next hb, h.2.2.1.trans (hb.mono h.2.2.1.size), h.2.2.2.1.next hb, h.2.2.2.2.next hb⟩
set_option maxRecDepth 100000 in
set_option maxHeartbeats 16000000 in
theorem walk (k : Int) (c m : Nat) (P : Option Addr) (ps : List Int) (pc : Nat) (s : ByteArray) (D : Option Addr) (dt : List Nat) (dc : Nat) (hp : ps.length ≤ 17592186043904) (hs : s.size ≤ 140737488351232) (hd : dt.length ≤ 140737488351232)
    (w : World) (ht : Ten w) (hrb : (RInts w P ps ∧ RByt w D dt) ∧ c < 256 ∧ m < 256 ∧ ps.length ≤ pc ∧ ∀ n ∈ dt, n < 256) :
    Calls Tryd.prog 3 #[.agg (tkC k (c : Int) (m : Int) P ps pc s D dt dc)] w fun e w' => e = .returned (.bool true) ∧ Below w.heap.size w w' := by
  obtain ⟨hrb, hc, hm, hpc, hdt⟩ := hrb
  have HT := Lib.hid ht; have HR := Lib.hid hrb
  have HAw := Lib.hid (fun W t => tokAwake_any W t)
  have HK0 := Lib.hid (K1.start w 25 (tkC k (c : Int) (m : Int) P ps pc s D dt dc))
  have HC1 := Lib.hid (fun W h1 h2 => refCheck_any k c m P ps pc s D dt dc (by unfold maxLen; omega) (by unfold maxLen; omega) (by unfold maxLen; omega) W h1 h2)
  rw [chk_same] at HC1
  have HC2 := Lib.hid (fun P pc D dc W h1 h2 => check_any k c m P ps pc s D dt dc hc (by unfold maxLen; omega) (by unfold maxLen; omega) (by unfold maxLen; omega) W h1 h2)
  have HTo : Hid (∀ P pc D dc W, Calls Tryd.prog 12 #[.agg (tkC k (c : Int) (m : Int) P ps pc s D dt dc)] W fun e w' => e = .returned (.agg (tkC k (c : Int) (m : Int) P ps pc s D dt dc)) ∧ Below W.heap.size W w') := Lib.hid (fun P pc D dc W => told_any k c m P ps pc s D dt dc W)
  have HRS := Lib.hid (fun P2 pc2 D2 dc2 W h1 h2 h3 h4 => refSame_any k c m P2 ps pc2 s D2 dt dc2 k c m P ps pc s D dt dc (by unfold maxLen; omega) (by unfold maxLen; omega) W h1 h2 h3 h4)
  rw [same_self] at HRS
  have HO1 := Lib.hid (fun W h1 h2 => lawOwn_any k c m P ps pc s D dt dc (by omega) (by omega) W h1 h2)
  have HBy := Lib.hid (fun P pc D dc hpc e W t h1 h2 => bytes_any k c m P ps pc s D dt dc hc (by unfold maxLen; omega) (by unfold maxLen; omega) hpc (by unfold maxLen; omega) e W t h1 h2)
  have HBz : Hid (checkP k c m ps s dt = 0 → ∀ e W, RInts W P ps → RByt W D dt → Calls Tryd.prog 14 #[.agg (tkC k (c : Int) (m : Int) P ps pc s D dt dc), .bool e] W fun e2 w' => ∃ v, e2 = .returned v ∧ OByt w' W.heap.size v (bytesL k c m ps s dt e) ∧ Below W.heap.size W w') := Lib.hid (fun hz e W h1 h2 => refBytes_any k c m P ps pc s D dt dc hz hc (by unfold maxLen; omega) (by unfold maxLen; omega) e W h1 h2)
  have HId : Hid (∀ P pc D dc W, Ten W → Calls Tryd.prog 15 #[.agg (tkC k (c : Int) (m : Int) P ps pc s D dt dc)] W fun e w' => e = .returned (.string (idP k c m s)) ∧ Below W.heap.size W w') := Lib.hid (fun P pc D dc W t => id_any k c m P ps pc s D dt dc hs W t)
  have HIr : Hid (∀ P pc D dc W, Calls Tryd.prog 16 #[.agg (tkC k (c : Int) (m : Int) P ps pc s D dt dc)] W fun e w' => e = .returned (.string (idP k c m s)) ∧ Below W.heap.size W w') := Lib.hid (fun P pc D dc W => refId_any k c m P ps pc s D dt dc (by unfold maxLen; omega) W)
  have HCv := Lib.hid (fun ns A n W (h : RByt W A ns) => conv_by h n)
  unfold BytesR at HBy
  clear ht hrb hc hm hpc hdt hp hs hd
  generalize checkP k c m ps s dt = q at *
  generalize idP k c m s = si at *

  unfold tkC at *
  go_enter Tryd.func3, Tryd.ntmps3
  go_upto_region 1 with fail
  generalize w.alloc (.cells #[.int .i64 k, .int .u8 (c : Int), .int .u8 (m : Int), .slice P ps.length pc, .string s, .slice D dt.length dc] 25) = w1 at *
  go_wp2_with fail
  refine (HAw.out _ (HT.out.next HK0.out.2)).mono ?_
  rintro e w2 ⟨rfl, hb2⟩
  have HK2 := Lib.hid (HK0.out.next hb2)
  clear hb2 HK0 HAw
  obtain ⟨a0, a1, a2, a3, a4, a5⟩ := six HK2.out.1
  go_wp2_with fail
  refine (HO1.out _ (HR.out.1.next HK2.out.2) (HR.out.2.next HK2.out.2)).mono ?_
  rintro e w3 ⟨⟨Px, px, Dx, dx, rfl, hpx, hdx, ho, hb⟩, hb3⟩
  have HK3 := Lib.hid (HK2.out.next hb3)
  have HPX := Lib.hid hpx
  have hA := (Below.refl w3.heap.size w3).alloc (Nat.le_refl _) (.cells #[.int .i64 k, .int .u8 (c : Int), .int .u8 (m : Int), .slice Px ps.length px, .string s, .slice Dx dt.length dx] 27)
  have HK4 : Hid (TC w w3.heap.size #[.int .i64 k, .int .u8 (c : Int), .int .u8 (m : Int), .slice P ps.length pc, .string s, .slice D dt.length dc] #[.int .i64 k, .int .u8 (c : Int), .int .u8 (m : Int), .slice Px ps.length px, .string s, .slice Dx dt.length dx] Px ps Dx dt (w3.alloc (.cells #[.int .i64 k, .int .u8 (c : Int), .int .u8 (m : Int), .slice Px ps.length px, .string s, .slice Dx dt.length dx] 27))) := Lib.hid ⟨HK3.out.1.next hA, Blk.new _ _ _, HK3.out.2.trans (hA.mono HK3.out.2.size), (OInts.reads ho).next hA, (OByt.reads hb).next hA⟩
  clear hb3 HK2 HO1 a0 a1 a2 a3 a4 a5 ho hb hpx hdx hA
  unfold tkC
  --#1
  go_upto_region 4 with fail
  generalize w3.heap.size = g2 at *
  generalize hw4 : World.alloc _ _ = w4 at *
  clear hw4
  obtain ⟨x0, x1, x2, x3, x4, x5⟩ := six HK4.out.2.1
  go_wp2_with fail
  refine (HC2.out Px px Dx dx _ HK4.out.2.2.2.1 HK4.out.2.2.2.2).mono ?_
  rintro e w5 ⟨rfl, hb5⟩
  have HK5 := Lib.hid (HK4.out.next hb5)
  clear hb5 HK4 HC2 x0 x1 x2 x3 x4 x5
  go_upto_region 5 with fail
  --#2
  refine wp_region_mix_lit (by kernel_rfl) [(2, .call (.int .i64 q)), (6, .call (.agg (tkC k (c : Int) (m : Int) Px ps px s Dx dt dx))), (8, .call (.bool true))] (by kernel_rfl) (by kernel_rfl) (by kernel_rfl) (by rfl) (by simp [apartK] <;> omega) (by simp [startK]) (by simp [stabK]) (⟨fun _ => undef, by simp [okK]⟩) (fun β hβ => ?_)
  unfold tkC
  repeat (
    refine lex_val (v := ?_) rfl rfl (fun w' hf => ?_) ?_
    rotate_left
    · obtain ⟨a0, a1, a2, a3, a4, a5⟩ := six (HK5.out.1.next hf.only.below0); obtain ⟨x0, x1, x2, x3, x4, x5⟩ := six (HK5.out.2.1.next hf.only.below0); go_simp
      try rfl
    try simp only [Act.put, List.setIfInBounds_toArray, List.set_cons_zero, List.set_cons_succ])
  refine lex_call (f := 10) (args := ?_) rfl rfl (fun w' hf => ?_) (fun w' hf => ?_) ?_
  rotate_left
  · obtain ⟨a0, a1, a2, a3, a4, a5⟩ := six (HK5.out.1.next hf.only.below0); obtain ⟨x0, x1, x2, x3, x4, x5⟩ := six (HK5.out.2.1.next hf.only.below0); go_simp
    try rfl
  · obtain ⟨a0, a1, a2, a3, a4, a5⟩ := six (HK5.out.1.next hf.only.below0); obtain ⟨x0, x1, x2, x3, x4, x5⟩ := six (HK5.out.2.1.next hf.only.below0); exact HC1.out w' (HR.out.1.next (HK5.out.2.2.1.trans (hf.only.below0.mono HK5.out.2.2.1.size))) (HR.out.2.next (HK5.out.2.2.1.trans (hf.only.below0.mono HK5.out.2.2.1.size)))
  try simp only [Act.put, List.setIfInBounds_toArray, List.set_cons_zero, List.set_cons_succ]
  repeat (
    refine lex_val (v := ?_) rfl rfl (fun w' hf => ?_) ?_
    rotate_left
    · obtain ⟨a0, a1, a2, a3, a4, a5⟩ := six (HK5.out.1.next hf.only.below0); obtain ⟨x0, x1, x2, x3, x4, x5⟩ := six (HK5.out.2.1.next hf.only.below0); go_simp
      try rfl
    try simp only [Act.put, List.setIfInBounds_toArray, List.set_cons_zero, List.set_cons_succ])
  refine lex_call (f := 12) (args := ?_) rfl rfl (fun w' hf => ?_) (fun w' hf => ?_) ?_
  rotate_left
  · obtain ⟨a0, a1, a2, a3, a4, a5⟩ := six (HK5.out.1.next hf.only.below0); obtain ⟨x0, x1, x2, x3, x4, x5⟩ := six (HK5.out.2.1.next hf.only.below0); go_simp
    try rfl
  · obtain ⟨a0, a1, a2, a3, a4, a5⟩ := six (HK5.out.1.next hf.only.below0); obtain ⟨x0, x1, x2, x3, x4, x5⟩ := six (HK5.out.2.1.next hf.only.below0); exact HTo.out Px px Dx dx w'
  try simp only [Act.put, List.setIfInBounds_toArray, List.set_cons_zero, List.set_cons_succ]
  repeat (
    refine lex_val (v := ?_) rfl rfl (fun w' hf => ?_) ?_
    rotate_left
    · obtain ⟨a0, a1, a2, a3, a4, a5⟩ := six (HK5.out.1.next hf.only.below0); obtain ⟨x0, x1, x2, x3, x4, x5⟩ := six (HK5.out.2.1.next hf.only.below0); go_simp
      try rfl
    try simp only [Act.put, List.setIfInBounds_toArray, List.set_cons_zero, List.set_cons_succ])
  refine lex_call (f := 11) (args := ?_) rfl rfl (fun w' hf => ?_) (fun w' hf => ?_) ?_
  rotate_left
  · obtain ⟨a0, a1, a2, a3, a4, a5⟩ := six (HK5.out.1.next hf.only.below0); obtain ⟨x0, x1, x2, x3, x4, x5⟩ := six (HK5.out.2.1.next hf.only.below0); go_simp
    try rfl
  · obtain ⟨a0, a1, a2, a3, a4, a5⟩ := six (HK5.out.1.next hf.only.below0); obtain ⟨x0, x1, x2, x3, x4, x5⟩ := six (HK5.out.2.1.next hf.only.below0); exact HRS.out Px px Dx dx w' (HK5.out.2.2.2.1.next hf.only.below0) (HR.out.1.next (HK5.out.2.2.1.trans (hf.only.below0.mono HK5.out.2.2.1.size))) (HK5.out.2.2.2.2.next hf.only.below0) (HR.out.2.next (HK5.out.2.2.1.trans (hf.only.below0.mono HK5.out.2.2.1.size)))
  try simp only [Act.put, List.setIfInBounds_toArray, List.set_cons_zero, List.set_cons_succ]
  repeat (
    refine lex_val (v := ?_) rfl rfl (fun w' hf => ?_) ?_
    rotate_left
    · go_simp
      try rfl
    try simp only [Act.put, List.setIfInBounds_toArray, List.set_cons_zero, List.set_cons_succ])
  refine lex_nil fun w6 he => ?_
  have HK6 := Lib.hid (HK5.out.next he.only.below0)
  clear he HK5 HRS HTo HC1
  have HB6 := Lib.hid (Blk.new w6 4 #[.bool false, .bool true])
  have HK7 := Lib.hid (HK6.out.next ((Below.refl _ _).alloc (Nat.le_refl _) (.cells #[.bool false, .bool true] 4)))
  --#3
  go_wp2_with fail
  generalize w6.alloc (.cells #[.bool false, .bool true] 4) = w7 at *
  generalize w6.heap.size = g3 at *
  clear HK6
  go_loopw [28] (fun i wr => ∃ j : Nat, j ≤ 2 ∧ i = .int .i64 j ∧ TC w g2 #[.int .i64 k, .int .u8 (c : Int), .int .u8 (m : Int), .slice P ps.length pc, .string s, .slice D dt.length dc] #[.int .i64 k, .int .u8 (c : Int), .int .u8 (m : Int), .slice Px ps.length px, .string s, .slice Dx dt.length dx] Px ps Dx dt wr ∧ Blk wr g3 4 #[.bool false, .bool true]) (fun i _ => 2 - (intOf i).toNat)
  case atStart => exact ⟨0, by omega, rfl, HK7.out, HB6.out⟩
  case round =>
    obtain ⟨j, hj, rfl, htc, hbl⟩ := hrel
    have HK8 := Lib.hid htc; have HB8 := Lib.hid hbl
    clear htc hbl HK7 HB6
    have hjc : j = 0 ∨ j = 1 ∨ j = 2 := by omega
    clear hj
    rcases hjc with rfl | rfl | rfl
    · have hcl := HB8.out.cell 0
      simp only [List.getElem?_toArray, List.getElem?_cons_zero] at hcl
      obtain ⟨x0, x1, x2, x3, x4, x5⟩ := six HK8.out.2.1
      go_wp2_with fail
      refine (HBy.out Px px Dx dx HPX.out false _ (HT.out.next HK8.out.2.2.1) HK8.out.2.2.2.1 HK8.out.2.2.2.2).mono ?_
      rintro e w9 ⟨hbr, hb9⟩
      have HK9 := Lib.hid (HK8.out.next hb9)
      have HB9 := Lib.hid (HB8.out.next hb9)
      clear HK8 HB8 hcl x0 x1 x2 x3 x4 x5
      rcases hbr with ⟨hq, rfl⟩ | ⟨hq, v, rfl, ho⟩
      · have hq2 : (q != 0) = true := by simpa using hq
        have hq3 : (q == 0) = false := by simpa using hq
        clear hb9 hq
        go_upto_region 11 with fail
        refine wp_region_mix_lit (by kernel_rfl) [] (by kernel_rfl) (by kernel_rfl) (by kernel_rfl) (by rfl) (by simp [apartK] <;> omega) (by simp [startK]) (by simp [stabK]) (⟨fun _ => undef, by simp [okK]⟩) (fun β hβ => ?_)
        repeat (
          refine lex_val (v := ?_) rfl rfl (fun w' hf => ?_) ?_
          rotate_left
          · go_simp
            try rfl
          try simp only [Act.put, List.setIfInBounds_toArray, List.set_cons_zero, List.set_cons_succ])
        repeat (
          refine lex_skip rfl rfl ?_
          try simp only [Act.put, List.setIfInBounds_toArray, List.set_cons_zero, List.set_cons_succ])
        repeat (
          refine lex_val (v := ?_) rfl rfl (fun w' hf => ?_) ?_
          rotate_left
          · go_simp
            try rfl
          try simp only [Act.put, List.setIfInBounds_toArray, List.set_cons_zero, List.set_cons_succ])
        repeat (
          refine lex_skip rfl rfl ?_
          try simp only [Act.put, List.setIfInBounds_toArray, List.set_cons_zero, List.set_cons_succ])
        repeat (
          refine lex_val (v := ?_) rfl rfl (fun w' hf => ?_) ?_
          rotate_left
          · go_simp
            try rfl
          try simp only [Act.put, List.setIfInBounds_toArray, List.set_cons_zero, List.set_cons_succ])
        refine lex_nil fun w10 he => ?_
        have HK10 := Lib.hid (HK9.out.next he.only.below0)
        have HB10 := Lib.hid (HB9.out.next he.only.below0)
        clear he
        go_wp2_with fail
        go_roundw
        case rel => exact ⟨1, by omega, rfl, HK10.out, HB10.out⟩
        case measure => simp [intOf]
      · subst hq
        have HBe := Lib.hid (HBz.out rfl false)
        obtain ⟨A1, n1, rfl⟩ := ho.form
        have HRd := Lib.hid ho.reads
        generalize bytesL k c m ps s dt false = l at *
        clear hb9 ho
        go_upto_region 11 with fail
        refine wp_region_mix_lit (by kernel_rfl) [(20, .letter (BtP l) (BtF w9.heap.size l))] (by kernel_rfl) (by kernel_rfl) (by kernel_rfl) (by rfl) (by simp [apartK] <;> omega) (by simp [startK]) (by simp only [List.forall_mem_cons, stabK]; exact ⟨bt_stab _ _ _ (by simp [boxes, Kind.boxed]), by simp⟩) (⟨fun i => .slice none l.length 0, by simp only [List.forall_mem_cons, okK]; exact ⟨⟨none, 0, rfl⟩, by simp⟩⟩) (fun β hβ => ?_)
        obtain ⟨A2, n2, e20⟩ := (hβ 20 : BtP l (β 20))
        repeat (
          refine lex_val (v := ?_) rfl rfl (fun w' hf => ?_) ?_
          rotate_left
          · have v1 := HCv.out l A1 n1 w' (HRd.out.next hf.only.below0); go_simp
            try rfl
          try simp only [Act.put, List.setIfInBounds_toArray, List.set_cons_zero, List.set_cons_succ])
        repeat (
          refine lex_skip rfl rfl ?_
          try simp only [Act.put, List.setIfInBounds_toArray, List.set_cons_zero, List.set_cons_succ])
        repeat (
          refine lex_val (v := ?_) rfl rfl (fun w' hf => ?_) ?_
          rotate_left
          · have v1 := HCv.out l A1 n1 w' (HRd.out.next hf.only.below0); obtain ⟨a0, a1, a2, a3, a4, a5⟩ := six (HK9.out.1.next hf.only.below0); obtain ⟨x0, x1, x2, x3, x4, x5⟩ := six (HK9.out.2.1.next hf.only.below0); go_simp
            try rfl
          try simp only [Act.put, List.setIfInBounds_toArray, List.set_cons_zero, List.set_cons_succ])
        refine lex_letter (f := 14) (args := ?_) rfl rfl (fun w' hf => ?_) (fun w' hf => ?_) ?_
        rotate_left
        · obtain ⟨a0, a1, a2, a3, a4, a5⟩ := six (HK9.out.1.next hf.only.below0); obtain ⟨x0, x1, x2, x3, x4, x5⟩ := six (HK9.out.2.1.next hf.only.below0); go_simp
          try rfl
        · obtain ⟨a0, a1, a2, a3, a4, a5⟩ := six (HK9.out.1.next hf.only.below0); obtain ⟨x0, x1, x2, x3, x4, x5⟩ := six (HK9.out.2.1.next hf.only.below0); exact (HBe.out w' (HR.out.1.next (HK9.out.2.2.1.trans (hf.only.below0.mono HK9.out.2.2.1.size))) (HR.out.2.next (HK9.out.2.2.1.trans (hf.only.below0.mono HK9.out.2.2.1.size)))).mono (fun e w'' ⟨v, h1, h2, h3⟩ => ⟨v, h1, h2.form, own_base (obyt_own h2) hf.only.size, h3⟩)
        try simp only [Act.put, List.setIfInBounds_toArray, List.set_cons_zero, List.set_cons_succ]
        refine lex_val (v := ?_) rfl rfl (fun w' hf => ?_) ?_
        rotate_left
        · have hg : BtF w9.heap.size l (β 20) w' := hf.got 20 _ _ rfl (by kernel_rfl); rw [e20] at hg; rw [e20]; have v1 := HCv.out l A2 n2 w' (OByt.reads hg); go_simp
          try rfl
        try simp only [Act.put, List.setIfInBounds_toArray, List.set_cons_zero, List.set_cons_succ]
        repeat (
          refine lex_val (v := ?_) rfl rfl (fun w' hf => ?_) ?_
          rotate_left
          · go_simp
            try rfl
          try simp only [Act.put, List.setIfInBounds_toArray, List.set_cons_zero, List.set_cons_succ])
        refine lex_nil fun w10 he => ?_
        have HK10 := Lib.hid (HK9.out.next he.only.below0)
        have HB10 := Lib.hid (HB9.out.next he.only.below0)
        clear he
        go_wp2_with fail
        go_roundw
        case rel => exact ⟨1, by omega, rfl, HK10.out, HB10.out⟩
        case measure => simp [intOf]
    · have hcl := HB8.out.cell 1
      simp only [List.getElem?_toArray, List.getElem?_cons_zero, List.getElem?_cons_succ] at hcl
      obtain ⟨x0, x1, x2, x3, x4, x5⟩ := six HK8.out.2.1
      go_wp2_with fail
      refine (HBy.out Px px Dx dx HPX.out true _ (HT.out.next HK8.out.2.2.1) HK8.out.2.2.2.1 HK8.out.2.2.2.2).mono ?_
      rintro e w9 ⟨hbr, hb9⟩
      have HK9 := Lib.hid (HK8.out.next hb9)
      have HB9 := Lib.hid (HB8.out.next hb9)
      clear HK8 HB8 hcl x0 x1 x2 x3 x4 x5
      rcases hbr with ⟨hq, rfl⟩ | ⟨hq, v, rfl, ho⟩
      · have hq2 : (q != 0) = true := by simpa using hq
        have hq3 : (q == 0) = false := by simpa using hq
        clear hb9 hq
        go_upto_region 11 with fail
        refine wp_region_mix_lit (by kernel_rfl) [] (by kernel_rfl) (by kernel_rfl) (by kernel_rfl) (by rfl) (by simp [apartK] <;> omega) (by simp [startK]) (by simp [stabK]) (⟨fun _ => undef, by simp [okK]⟩) (fun β hβ => ?_)
        repeat (
          refine lex_val (v := ?_) rfl rfl (fun w' hf => ?_) ?_
          rotate_left
          · go_simp
            try rfl
          try simp only [Act.put, List.setIfInBounds_toArray, List.set_cons_zero, List.set_cons_succ])
        repeat (
          refine lex_skip rfl rfl ?_
          try simp only [Act.put, List.setIfInBounds_toArray, List.set_cons_zero, List.set_cons_succ])
        repeat (
          refine lex_val (v := ?_) rfl rfl (fun w' hf => ?_) ?_
          rotate_left
          · go_simp
            try rfl
          try simp only [Act.put, List.setIfInBounds_toArray, List.set_cons_zero, List.set_cons_succ])
        repeat (
          refine lex_skip rfl rfl ?_
          try simp only [Act.put, List.setIfInBounds_toArray, List.set_cons_zero, List.set_cons_succ])
        repeat (
          refine lex_val (v := ?_) rfl rfl (fun w' hf => ?_) ?_
          rotate_left
          · go_simp
            try rfl
          try simp only [Act.put, List.setIfInBounds_toArray, List.set_cons_zero, List.set_cons_succ])
        refine lex_nil fun w10 he => ?_
        have HK10 := Lib.hid (HK9.out.next he.only.below0)
        have HB10 := Lib.hid (HB9.out.next he.only.below0)
        clear he
        go_wp2_with fail
        go_roundw
        case rel => exact ⟨2, by omega, rfl, HK10.out, HB10.out⟩
        case measure => simp [intOf]
      · subst hq
        have HBe := Lib.hid (HBz.out rfl true)
        obtain ⟨A1, n1, rfl⟩ := ho.form
        have HRd := Lib.hid ho.reads
        generalize bytesL k c m ps s dt true = l at *
        clear hb9 ho
        go_upto_region 11 with fail
        refine wp_region_mix_lit (by kernel_rfl) [(20, .letter (BtP l) (BtF w9.heap.size l))] (by kernel_rfl) (by kernel_rfl) (by kernel_rfl) (by rfl) (by simp [apartK] <;> omega) (by simp [startK]) (by simp only [List.forall_mem_cons, stabK]; exact ⟨bt_stab _ _ _ (by simp [boxes, Kind.boxed]), by simp⟩) (⟨fun i => .slice none l.length 0, by simp only [List.forall_mem_cons, okK]; exact ⟨⟨none, 0, rfl⟩, by simp⟩⟩) (fun β hβ => ?_)
        obtain ⟨A2, n2, e20⟩ := (hβ 20 : BtP l (β 20))
        repeat (
          refine lex_val (v := ?_) rfl rfl (fun w' hf => ?_) ?_
          rotate_left
          · have v1 := HCv.out l A1 n1 w' (HRd.out.next hf.only.below0); go_simp
            try rfl
          try simp only [Act.put, List.setIfInBounds_toArray, List.set_cons_zero, List.set_cons_succ])
        repeat (
          refine lex_skip rfl rfl ?_
          try simp only [Act.put, List.setIfInBounds_toArray, List.set_cons_zero, List.set_cons_succ])
        repeat (
          refine lex_val (v := ?_) rfl rfl (fun w' hf => ?_) ?_
          rotate_left
          · have v1 := HCv.out l A1 n1 w' (HRd.out.next hf.only.below0); obtain ⟨a0, a1, a2, a3, a4, a5⟩ := six (HK9.out.1.next hf.only.below0); obtain ⟨x0, x1, x2, x3, x4, x5⟩ := six (HK9.out.2.1.next hf.only.below0); go_simp
            try rfl
          try simp only [Act.put, List.setIfInBounds_toArray, List.set_cons_zero, List.set_cons_succ])
        refine lex_letter (f := 14) (args := ?_) rfl rfl (fun w' hf => ?_) (fun w' hf => ?_) ?_
        rotate_left
        · obtain ⟨a0, a1, a2, a3, a4, a5⟩ := six (HK9.out.1.next hf.only.below0); obtain ⟨x0, x1, x2, x3, x4, x5⟩ := six (HK9.out.2.1.next hf.only.below0); go_simp
          try rfl
        · obtain ⟨a0, a1, a2, a3, a4, a5⟩ := six (HK9.out.1.next hf.only.below0); obtain ⟨x0, x1, x2, x3, x4, x5⟩ := six (HK9.out.2.1.next hf.only.below0); exact (HBe.out w' (HR.out.1.next (HK9.out.2.2.1.trans (hf.only.below0.mono HK9.out.2.2.1.size))) (HR.out.2.next (HK9.out.2.2.1.trans (hf.only.below0.mono HK9.out.2.2.1.size)))).mono (fun e w'' ⟨v, h1, h2, h3⟩ => ⟨v, h1, h2.form, own_base (obyt_own h2) hf.only.size, h3⟩)
        try simp only [Act.put, List.setIfInBounds_toArray, List.set_cons_zero, List.set_cons_succ]
        refine lex_val (v := ?_) rfl rfl (fun w' hf => ?_) ?_
        rotate_left
        · have hg : BtF w9.heap.size l (β 20) w' := hf.got 20 _ _ rfl (by kernel_rfl); rw [e20] at hg; rw [e20]; have v1 := HCv.out l A2 n2 w' (OByt.reads hg); go_simp
          try rfl
        try simp only [Act.put, List.setIfInBounds_toArray, List.set_cons_zero, List.set_cons_succ]
        repeat (
          refine lex_val (v := ?_) rfl rfl (fun w' hf => ?_) ?_
          rotate_left
          · go_simp
            try rfl
          try simp only [Act.put, List.setIfInBounds_toArray, List.set_cons_zero, List.set_cons_succ])
        refine lex_nil fun w10 he => ?_
        have HK10 := Lib.hid (HK9.out.next he.only.below0)
        have HB10 := Lib.hid (HB9.out.next he.only.below0)
        clear he
        go_wp2_with fail
        go_roundw
        case rel => exact ⟨2, by omega, rfl, HK10.out, HB10.out⟩
        case measure => simp [intOf]
    · clear HBy HBz HCv
      go_upto_region 14 with fail
      refine wp_region_mix_lit (by kernel_rfl) [(1, .call (.string si)), (3, .call (.string si))] (by kernel_rfl) (by kernel_rfl) (by kernel_rfl) (by rfl) (by simp [apartK] <;> omega) (by simp [startK]) (by simp [stabK]) (⟨fun _ => undef, by simp [okK]⟩) (fun β hβ => ?_)
      repeat (
        refine lex_val (v := ?_) rfl rfl (fun w' hf => ?_) ?_
        rotate_left
        · obtain ⟨a0, a1, a2, a3, a4, a5⟩ := six (HK8.out.1.next hf.only.below0); obtain ⟨x0, x1, x2, x3, x4, x5⟩ := six (HK8.out.2.1.next hf.only.below0); go_simp
          try rfl
        try simp only [Act.put, List.setIfInBounds_toArray, List.set_cons_zero, List.set_cons_succ])
      refine lex_call (f := 15) (args := ?_) rfl rfl (fun w' hf => ?_) (fun w' hf => ?_) ?_
      rotate_left
      · obtain ⟨a0, a1, a2, a3, a4, a5⟩ := six (HK8.out.1.next hf.only.below0); obtain ⟨x0, x1, x2, x3, x4, x5⟩ := six (HK8.out.2.1.next hf.only.below0); go_simp
        try rfl
      · obtain ⟨a0, a1, a2, a3, a4, a5⟩ := six (HK8.out.1.next hf.only.below0); obtain ⟨x0, x1, x2, x3, x4, x5⟩ := six (HK8.out.2.1.next hf.only.below0); exact HId.out Px px Dx dx w' (HT.out.next (HK8.out.2.2.1.trans (hf.only.below0.mono HK8.out.2.2.1.size)))
      try simp only [Act.put, List.setIfInBounds_toArray, List.set_cons_zero, List.set_cons_succ]
      repeat (
        refine lex_val (v := ?_) rfl rfl (fun w' hf => ?_) ?_
        rotate_left
        · obtain ⟨a0, a1, a2, a3, a4, a5⟩ := six (HK8.out.1.next hf.only.below0); obtain ⟨x0, x1, x2, x3, x4, x5⟩ := six (HK8.out.2.1.next hf.only.below0); go_simp
          try rfl
        try simp only [Act.put, List.setIfInBounds_toArray, List.set_cons_zero, List.set_cons_succ])
      refine lex_call (f := 16) (args := ?_) rfl rfl (fun w' hf => ?_) (fun w' hf => ?_) ?_
      rotate_left
      · obtain ⟨a0, a1, a2, a3, a4, a5⟩ := six (HK8.out.1.next hf.only.below0); obtain ⟨x0, x1, x2, x3, x4, x5⟩ := six (HK8.out.2.1.next hf.only.below0); go_simp
        try rfl
      · obtain ⟨a0, a1, a2, a3, a4, a5⟩ := six (HK8.out.1.next hf.only.below0); obtain ⟨x0, x1, x2, x3, x4, x5⟩ := six (HK8.out.2.1.next hf.only.below0); exact HIr.out P pc D dc w'
      try simp only [Act.put, List.setIfInBounds_toArray, List.set_cons_zero, List.set_cons_succ]
      repeat (
        refine lex_val (v := ?_) rfl rfl (fun w' hf => ?_) ?_
        rotate_left
        · go_simp
          try rfl
        try simp only [Act.put, List.setIfInBounds_toArray, List.set_cons_zero, List.set_cons_succ])
      refine lex_nil fun w10 he => ?_
      have HK10 := Lib.hid (HK8.out.next he.only.below0)
      clear he
      go_wp2_with fail
      go_ret
      exact ⟨rfl, HK10.out.2.2.1⟩

set_option maxRecDepth 100000 in
/-- What the walk gives, for every argument and every world that holds the table. -/
theorem contract (H : Type) (enc : TypeId × Value → H) (W : World) (base : Nat) (args : Array Value) (ds gs : List (DataW H)) (before : List MemPlace)
    (hval : ∀ (j : Nat) t v, Tryd.f3.params[j]? = some t → args[j]? = some v → Value.okWide Tryd.prog W .any base t v)
    (hW : DataW.Whole enc Tryd.prog Tryd.f3.params.toList Rows.tokenChecksSpec.vars false W args.toList ds gs before) (hL : laidMetH Tryd.prog Rows.tokenChecksRow.laid W)
    (hreach : (DataW.weightsEach Tryd.prog (Tryd.f3.params.toList ++ []) (ds ++ gs)).all (· ≤ reachBytes) = true) :
    Calls Tryd.prog 3 args W fun e W' => ∃ v, e = .returned v ∧ Rows.tokenChecksSpec.post enc Tryd.prog Tryd.f3 false true false false W args v W' := by
  have hW' := hW
  have ht := ten_of hL
  have hlts : ∀ x ∈ before, x.block < W.heap.size := fun x hx => hW'.lt x hx
  obtain ⟨p, q, hA0, hV, rfl, hfz, hnd⟩ := hW
  have hA : DataW.TrodAll enc Tryd.prog W 0 (fun _ => true) true Tryd.f3.params.toList args.toList ds p := hA0
  rw [Tryd.params3] at hA hval hreach
  obtain ⟨v0, vs0, d0, ds0, pp0, qq0, hargs, rfl, rfl, h0, rr0⟩ := trodAll_cons hA
  obtain ⟨rfl, rfl, rfl⟩ := trodAll_nil rr0
  obtain rfl : args = #[v0] := by cases args; simp_all
  obtain ⟨rfl, rfl⟩ := trodVars_none hV
  obtain ⟨k0, c0, m0, P0, ps0, pc0, s0, D0, dt0, dc0, rfl, hcc0, hmm0, hp0, hpp0, hs0, hd0, _, hdd0, hrp0, hrb0⟩ := tok_in2 (hval 0 25 v0 rfl rfl) h0 (by rw [List.all_eq_true]; exact fun n hn => List.all_eq_true.1 hreach n (DataW.weights_mem_each (j := 0) rfl rfl n hn))
  have hri0 := And.intro (And.intro hrp0 hrb0) (And.intro hcc0 (And.intro hmm0 (And.intro hpp0 hdd0)))
  clear hA0
  refine (walk k0 c0 m0 P0 ps0 pc0 s0 D0 dt0 dc0 hp0 hs0 hd0 W ht hri0).mono fun e W' ⟨he, hb⟩ => ?_
  subst he
  exact ⟨_, rfl, post_law laidOut (by kernel_rfl) (by kernel_rfl) rfl hW' rfl hb⟩

set_option maxRecDepth 100000 in
theorem laid_met (os : Os) : laidMet Tryd.prog Rows.tokenChecksRow.laid ((laidWorld os).forCall (fun _ _ => 0) ⟨#[], #[Value.agg #[.int .i64 0, .int .u8 0, .int .u8 0, .slice none 0 0, .string ⟨#[]⟩, .slice none 0 0]], []⟩).memory :=
  laidMet_of_run' 8 (by kernel_rfl) (by kernel_rfl)
set_option maxRecDepth 100000 in
theorem reads (os : Os) {H : Type} (enc : TypeId × Value → H) : ∃ places, DataW.whole enc Tryd.prog ((laidWorld os).forCall (fun _ _ => 0) ⟨#[], #[Value.agg #[.int .i64 0, .int .u8 0, .int .u8 0, .slice none 0 0, .string ⟨#[]⟩, .slice none 0 0]], []⟩).memory Tryd.f3.params.toList Rows.tokenChecksSpec.vars false (#[Value.agg #[.int .i64 0, .int .u8 0, .int .u8 0, .slice none 0 0, .string ⟨#[]⟩, .slice none 0 0]] : Array Value).toList 8 = some ([.agg [.lit (.int .i64 0), .lit (.int .u8 0), .lit (.int .u8 0), .nil, .lit (.string []), .nil]], [], places) :=
  ⟨[], by kernel_rfl⟩

set_option maxRecDepth 100000 in
theorem lifted (os : Os) (started : os.Started) (H : Type) (enc : TypeId × Value → H) (F : Stop.Interp) :
    ReturnsInHanded {} Tryd.checked os 3 .any ((OpenSpec.ofChange Rows.tokenChecksSpec).preRow enc Tryd.prog Tryd.f3 Rows.tokenChecksRow.domain false Rows.tokenChecksRow.laid) (((OpenSpec.ofChange Rows.tokenChecksSpec).at F).post enc Tryd.prog Tryd.f3 false true false false) := by
  obtain ⟨places, hx⟩ := reads os enc
  refine returnsInHanded_of_row (C := Tryd.checked) (s := OpenSpec.ofChange Rows.tokenChecksSpec) own started (by kernel_rfl) Tryd.func3
    (witness_row_at (enc := enc) (C := Tryd.checked) false (laidWorld os) #[Value.agg #[.int .i64 0, .int .u8 0, .int .u8 0, .slice none 0 0, .string ⟨#[]⟩, .slice none 0 0]] rfl (by kernel_rfl) (by kernel_rfl) (by kernel_rfl)
      (OpenSpec.preRow_of_cond 8 hx (by kernel_rfl) (fun k hk => by cases hk) (by kernel_rfl) (laid_met os))) ?_
  intro W base args ds gs before hval hW _ _ hreach hL _ _
  exact contract H enc W base args ds gs before hval hW hL hreach

theorem said : Rows.TokenChecksSaid :=
  OpenClaim.holds_of_cond 3 Tryd.f3 rfl rfl rfl rfl rfl rfl rfl ⟨rfl, rfl, rfl, rfl, rfl⟩ rfl rfl rfl rfl rfl (by kernel_rfl) Tryd.func3 (by kernel_rfl)
    (of_decide_eq_true (by kernel_rfl)) (by unfold Func.isWrapper; first | (rw [if_pos (by decide +kernel)]; kernel_rfl) | (rw [if_neg (by decide +kernel)]; exact ⟨rfl, rfl⟩))
    (fun os started H enc _ F => by rw [OpenClaim.pre_eq_preRow]; exact lifted os started H enc F)

theorem plain (f : FuncId) (fn : Func) (hf : Tryd.pinned.checked.prog.funcNamed "phosphor/phosphorlaw11.TokenChecks" = some f) (hfn : Tryd.pinned.checked.prog.funcs[f]? = some fn) :
    false = Tryd.pinned.checked.prog.looks [] ∧ ∀ (j : Nat) t, fn.params[j]? = some t → Tryd.pinned.checked.prog.wantsStandIn t = false := by
  obtain rfl : f = 3 := Option.some.inj ((show Tryd.prog.funcNamed "phosphor/phosphorlaw11.TokenChecks" = some 3 by kernel_rfl).symm.trans hf) |>.symm
  obtain rfl : fn = Tryd.f3 := (Option.some.inj (Tryd.func3.symm.trans hfn)).symm
  refine ⟨by kernel_rfl, fun j t ht => ?_⟩
  rw [Tryd.params3] at ht
  have hm : t ∈ [25] := by simpa using Array.mem_of_getElem? ht
  have hall : ([25].all fun u => !Tryd.prog.wantsStandIn u) = true := by kernel_rfl
  exact (show Tryd.prog.wantsStandIn t = false by simpa using List.all_eq_true.1 hall t hm)

/-- The card. -/
theorem card : Rows.TokenChecksCardSaid :=
  Claim7.holds_tied_plain_at .later [] _ _ _ _ said (fun _ h => by cases h) (by kernel_rfl) (fun _ h => by cases h) tokenChecks_row_tie rfl ⟨rfl, rfl⟩ (by kernel_rfl) rfl plain (by kernel_rfl)
#print axioms card
end Go.Proofs.YtcphjohciklmjaaDoor.tokenChecks

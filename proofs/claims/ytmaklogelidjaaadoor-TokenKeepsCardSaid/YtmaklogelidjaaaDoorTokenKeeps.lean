/-
  TokenKeeps holds, whatever the input: the card of the statement, with the library's three tables tied to the program's text.
-/
import Derived.Test.YtmaklogelidjaaaDoorCards
import Derived.Test.YtmaklogelidjaaaDoorTie
import Derived.Test.YtmaklogelidjaaaDoorFrameP
import Derived.Test.YtmaklogelidjaaaDoorTokKp
import Derived.Test.YtmaklogelidjaaaDoorFrameK
namespace Go.Proofs.YtmaklogelidjaaaDoor.tokenKeeps
open Go.ChangeShapes Go.WideShapes Go.ChangeAt Go.RowKit
open Go.ChangeMaps (open_string)

/-- Bytes that a call answers, as a letter. -/
def BtP (l : List Nat) (u : Value) : Prop := ∃ A n, u = .slice A l.length n
def BtF (B : Nat) (l : List Nat) (u : Value) (W : World) : Prop := OByt W B u l
theorem bt_stab (ks : Kinds) (wr : World) (l : List Nat) (h : 5 ∉ boxes ks) : ∀ v w w', Kept ks wr w w' → BtF wr.heap.size l v w → BtF wr.heap.size l v w' := fun _ _ _ hk ho => own_stab2 h hk ho
/-- What is kept from call to call. -/
def TC (w : World) (g2 : Nat) (x1 x2 : Array Value) (Px : Option Addr) (ps : List Int) (Dx : Option Addr) (dt : List Nat) (W : World) : Prop :=
  Blk W w.heap.size 25 x1 ∧ Blk W g2 27 x2 ∧ Below w.heap.size w W ∧ RInts W Px ps ∧ RByt W Dx dt
theorem TC.next {w W W' : World} {g2 : Nat} {x1 x2 : Array Value} {Px : Option Addr} {ps : List Int} {Dx : Option Addr} {dt : List Nat} (h : TC w g2 x1 x2 Px ps Dx dt W) (hb : Below W.heap.size W W') : TC w g2 x1 x2 Px ps Dx dt W' :=
  ⟨h.1.next hb, h.2.1.next hb, h.2.2.1.trans (hb.mono h.2.2.1.size), h.2.2.2.1.next hb, h.2.2.2.2.next hb⟩
set_option maxRecDepth 100000 in
set_option maxHeartbeats 16000000 in
theorem walk (k : Int) (c m : Nat) (P : Option Addr) (ps : List Int) (pc : Nat) (s : ByteArray) (D : Option Addr) (dt : List Nat) (dc : Nat) (hp : ps.length ≤ 17592186043904) (hs : s.size ≤ 140737488351232) (hd : dt.length ≤ 140737488351232)
    (w : World) (ht : Ten w) (hrb : (RInts w P ps ∧ RByt w D dt) ∧ c < 256 ∧ m < 256 ∧ ps.length ≤ pc ∧ ∀ n ∈ dt, n < 256) :
    Calls Tryd.prog 3 #[.agg (tkC k (c : Int) (m : Int) P ps pc s D dt dc)] w fun e w' => e = .returned (.bool true) ∧ Below w.heap.size w w' := by
  obtain ⟨hrb, hc, hm, hpc, hdt⟩ := hrb
  have HT := Lib.hid ht; have HR := Lib.hid hrb
  have HAw := Lib.hid (fun W t => tokAwake_any W t)
  have HK0 := Lib.hid (K1.start w 25 (tkC k (c : Int) (m : Int) P ps pc s D dt dc))
  have HC1 := Lib.hid (fun W h1 h2 => refCheck_any k c m P ps pc s D dt dc (by unfold maxLen; omega) (by unfold maxLen; omega) (by unfold maxLen; omega) W h1 h2)
  rw [chk_same] at HC1
  have HTo : Hid (∀ P pc D dc W, Calls Tryd.prog 11 #[.agg (tkC k (c : Int) (m : Int) P ps pc s D dt dc)] W fun e w' => e = .returned (.agg (tkC k (c : Int) (m : Int) P ps pc s D dt dc)) ∧ Below W.heap.size W w') := Lib.hid (fun P pc D dc W => told_any k c m P ps pc s D dt dc W)
  have HRS := Lib.hid (fun P2 pc2 D2 dc2 W h1 h2 h3 h4 => refSame_any k c m P2 ps pc2 s D2 dt dc2 k c m P ps pc s D dt dc (by unfold maxLen; omega) (by unfold maxLen; omega) W h1 h2 h3 h4)
  have HSa := Lib.hid (fun P1 pc1 D1 dc1 P2 pc2 D2 dc2 W h1 h2 h3 h4 => same_any k c m P1 ps pc1 s D1 dt dc1 k c m P2 ps pc2 s D2 dt dc2 (by unfold maxLen; omega) (by unfold maxLen; omega) W h1 h2 h3 h4)
  rw [same_self] at HRS HSa
  have HO1 := Lib.hid (fun W h1 h2 => lawOwn_any k c m P ps pc s D dt dc (by omega) (by omega) W h1 h2)
  have HCp := Lib.hid (fun P pc D dc W h1 h2 => copy_any k c m P ps pc s D dt dc (by omega) (by omega) W h1 h2)
  have HBy : Hid (∀ P pc D dc, ps.length ≤ pc → ∀ W, Ten W → RInts W P ps → RByt W D dt → Calls Tryd.prog 7 #[.agg (tkC k (c : Int) (m : Int) P ps pc s D dt dc), .bool false] W fun e w' => BytesR W w' e k c m ps s dt false ∧ Below W.heap.size W w') := Lib.hid (fun P pc D dc hpc W t h1 h2 => bytes_any k c m P ps pc s D dt dc hc (by unfold maxLen; omega) (by unfold maxLen; omega) hpc (by unfold maxLen; omega) false W t h1 h2)
  have HBz : Hid (checkP k c m ps s dt = 0 → ∀ W, RInts W P ps → RByt W D dt → Calls Tryd.prog 9 #[.agg (tkC k (c : Int) (m : Int) P ps pc s D dt dc), .bool false] W fun e2 w' => ∃ v, e2 = .returned v ∧ OByt w' W.heap.size v (bytesL k c m ps s dt false) ∧ Below W.heap.size W w') := Lib.hid (fun hz W h1 h2 => refBytes_any k c m P ps pc s D dt dc hz hc (by unfold maxLen; omega) (by unfold maxLen; omega) false W h1 h2)
  have HCv := Lib.hid (fun ns A n W (h : RByt W A ns) => conv_by h n)
  have HBoth := Lib.hid (fun w w' e (h : BytesR w w' e k c m ps s dt false) => bytes_both h)
  have HLen := Lib.hid (And.intro hp hd)
  obtain ⟨l, hl⟩ : ∃ l, l = (if checkP k c m ps s dt = 0 then bytesL k c m ps s dt false else []) := ⟨_, rfl⟩
  rw [← hl] at HBoth
  have HL := Lib.hid hl
  clear ht hrb hc hm hpc hdt hp hs hd hl
  generalize checkP k c m ps s dt = q at *
  generalize bytesL k c m ps s dt false = bl at *
  unfold tkC at *
  go_enter Tryd.func3, Tryd.ntmps3
  go_upto_region 1 with fail
  generalize w.alloc (.cells #[.int .i64 k, .int .u8 (c : Int), .int .u8 (m : Int), .slice P ps.length pc, .string s, .slice D dt.length dc] 25) = w1 at *
  go_wp2_with fail
  refine (HAw.out _ (HT.out.next HK0.out.2)).mono ?_
  rintro e w2 ⟨rfl, hb2⟩
  have HK2 := Lib.hid (HK0.out.next hb2)
  clear hb2 HK0 HAw
  obtain ⟨a0, a1, a2, a3, a4, a5⟩ := six HK2.out.1
  go_wp2_with fail
  refine (HO1.out _ (HR.out.1.next HK2.out.2) (HR.out.2.next HK2.out.2)).mono ?_
  rintro e w3 ⟨⟨Px, px, Dx, dx, rfl, hpx, hdx, ho, hb⟩, hb3⟩
  have HK3 := Lib.hid (HK2.out.next hb3)
  have HPX := Lib.hid hpx
  have hA := (Below.refl w3.heap.size w3).alloc (Nat.le_refl _) (.cells #[.int .i64 k, .int .u8 (c : Int), .int .u8 (m : Int), .slice Px ps.length px, .string s, .slice Dx dt.length dx] 27)
  have HK4 : Hid (TC w w3.heap.size #[.int .i64 k, .int .u8 (c : Int), .int .u8 (m : Int), .slice P ps.length pc, .string s, .slice D dt.length dc] #[.int .i64 k, .int .u8 (c : Int), .int .u8 (m : Int), .slice Px ps.length px, .string s, .slice Dx dt.length dx] Px ps Dx dt (w3.alloc (.cells #[.int .i64 k, .int .u8 (c : Int), .int .u8 (m : Int), .slice Px ps.length px, .string s, .slice Dx dt.length dx] 27))) := Lib.hid ⟨HK3.out.1.next hA, Blk.new _ _ _, HK3.out.2.trans (hA.mono HK3.out.2.size), (OInts.reads ho).next hA, (OByt.reads hb).next hA⟩
  clear hb3 HK2 HO1 a0 a1 a2 a3 a4 a5 ho hb hpx hdx hA
  unfold tkC
  go_upto_region 4 with fail
  generalize w3.heap.size = g2 at *
  generalize hw4 : World.alloc _ _ = w4 at *
  clear hw4
  obtain ⟨x0, x1, x2, x3, x4, x5⟩ := six HK4.out.2.1
  go_wp2_with fail
  refine (HCp.out Px px Dx dx _ HK4.out.2.2.2.1 HK4.out.2.2.2.2).mono ?_
  rintro e w5 ⟨⟨Py, py, Dy, dy, rfl, _, _, hop, hod⟩, hb5⟩
  have hA := (Below.refl w5.heap.size w5).alloc (Nat.le_refl _) (.cells #[.int .i64 k, .int .u8 (c : Int), .int .u8 (m : Int), .slice Py ps.length py, .string s, .slice Dy dt.length dy] 27)
  have HB6 := Lib.hid (hb5.trans (hA.mono hb5.size))
  have HY6 := Lib.hid (Blk.new w5 27 #[.int .i64 k, .int .u8 (c : Int), .int .u8 (m : Int), .slice Py ps.length py, .string s, .slice Dy dt.length dy])
  have HP6 := Lib.hid (own_nextZ (oints_own hop) hA)
  have HD6 := Lib.hid (own_nextZ (obyt_own hod) hA)
  have HP6b : Hid (∀ k ∈ bkA Py, w4.heap.size ≤ k ∧ k < w5.heap.size) := Lib.hid (fun k hk => let h := own_bk (oints_own hop) k hk; ⟨h.1, h.2.1⟩)
  have HD6b : Hid (∀ k ∈ bkA Dy, w4.heap.size ≤ k ∧ k < w5.heap.size) := Lib.hid (fun k hk => let h := own_bk (obyt_own hod) k hk; ⟨h.1, h.2.1⟩)
  have HG3 : Hid (w4.heap.size ≤ w5.heap.size) := Lib.hid hb5.size
  clear hop hod hb5 hA x0 x1 x2 x3 x4 x5
  unfold tkC
  go_upto_region 5 with fail
  generalize w5.heap.size = g3 at *
  generalize hw6 : World.alloc _ _ = w6 at *
  clear hw6
  have HK6 := Lib.hid (HK4.out.next HB6.out)
  obtain ⟨x0, x1, x2, x3, x4, x5⟩ := six HK6.out.2.1
  go_wp2_with fail
  refine (HBy.out Px px Dx dx HPX.out w6 (HT.out.next HK6.out.2.2.1) HK6.out.2.2.2.1 HK6.out.2.2.2.2).mono ?_
  rintro e w7 ⟨hR, hb7⟩
  obtain ⟨vb, zb, rfl, hvb⟩ := HBoth.out _ _ _ hR
  obtain ⟨Ab, nb, rfl⟩ := OByt.form hvb
  have HK7 := Lib.hid (HK6.out.next hb7)
  clear x0 x1 x2 x3 x4 x5 hR
  obtain ⟨x0, x1, x2, x3, x4, x5⟩ := six HK7.out.2.1
  go_wp2_with fail
  refine (HBy.out Px px Dx dx HPX.out w7 (HT.out.next HK7.out.2.2.1) HK7.out.2.2.2.1 HK7.out.2.2.2.2).mono ?_
  rintro e w8 ⟨hR, hb8⟩
  obtain ⟨vc, zc, rfl, hvc⟩ := HBoth.out _ _ _ hR
  obtain ⟨Ac, nc, rfl⟩ := OByt.form hvc
  clear x0 x1 x2 x3 x4 x5 hR HK7
  have h68 := hb7.trans (hb8.mono hb7.size)
  have HBW := Lib.hid (HB6.out.trans (h68.mono HB6.out.size))
  have HY := Lib.hid (HY6.out.next h68)
  have HP := Lib.hid (own_nextZ HP6.out h68)
  have HD := Lib.hid (own_nextZ HD6.out h68)
  have HBo := Lib.hid (own_nextZ (obyt_own hvb) hb8)
  have HBb : Hid (∀ k ∈ bkA Ab, g3 < k ∧ k < w7.heap.size) := Lib.hid (fun k hk => let h := own_bk (obyt_own hvb) k hk; ⟨by have := HY6.out.lt; omega, h.2.1⟩)
  have HCo := Lib.hid hvc
  have HG7 : Hid (g3 < w7.heap.size) := Lib.hid (by have := HY6.out.lt; have := hb7.size; omega)
  clear hvb hvc hb7 hb8 h68 HY6 HP6 HD6 HK6 HB6 HBy HBoth
  go_upto_region 8 with fail
  go_loopw [30] (fun i wr => ∃ j : Nat, j ≤ l.length ∧ i = .int .i64 j ∧ LP .u8 5 w6.heap.size Ab l.length nb w8 wr) (fun i _ => l.length - (intOf i).toNat)
  case atStart => exact ⟨0, by omega, rfl, ⟨l.map fun (n : Nat) => (n : Int), by rw [List.map_map]; exact HBo.out⟩, Only.refl _⟩
  case round =>
    obtain ⟨j, hj, rfl, hlp⟩ := hrel
    have HLP := Lib.hid hlp
    have hLe := own_max HLP.out.own.choose_spec
    clear hlp
    by_cases hgo : j < l.length
    · obtain ⟨g, z, hA, dz, fz, hst⟩ := HLP.out.step hgo
      have HSt := Lib.hid hst
      have HAe := Lib.hid hA
      clear hst
      subst hA
      have hwk : IntKind.i64.wrap ((j : Int) + 1) = (j : Int) + 1 := IntWalk.i64_in _ (by omega)
      have hlt : decide ((j : Int) < (l.length : Nat)) = true := by simp; omega
      clear hLe
      go_wp2_with fail
      go_roundw
      case rel => exact ⟨j + 1, by omega, by first | rfl | go_num, HSt.out _⟩
      case measure => simp [intOf]; omega
    · have hd : decide ((j : Int) < (l.length : Nat)) = false := by simp; omega
      obtain rfl : j = l.length := by omega
      clear hgo hj hd hLe
      have HY1 := Lib.hid (HLP.out.only.blk HY.out (fun h => by have := HBb.out _ h; omega))
      have HP1 := Lib.hid (own_only HP.out HLP.out.only (fun k hk h => by have := HP6b.out k hk; have := HBb.out k h; omega))
      have HD1 := Lib.hid (own_only HD.out HLP.out.only (fun k hk h => by have := HD6b.out k hk; have := HBb.out k h; omega))
      have HC1c := Lib.hid (own_only (obyt_own HCo.out) HLP.out.only (fun k hk h => by have := HBb.out k h; have := (own_bk (obyt_own HCo.out) k hk).1; omega))
      have HW1 := Lib.hid (HBW.out.trans (HLP.out.only.below HBW.out.size (fun k h => by have := HBb.out k h; have := HG3.out; omega)))
      clear HLP HY HP HD HCo HBW HBo
      rename World => v1
      obtain ⟨y0, y1, y2, y3, y4, y5⟩ := six HY1.out
      go_upto_region 13 with fail
      clear y0 y1 y2 y3 y4 y5
      go_loopw [43] (fun i wr => ∃ j : Nat, j ≤ ps.length ∧ i = .int .i64 j ∧ LP .i64 3 w4.heap.size Py ps.length py v1 wr) (fun i _ => ps.length - (intOf i).toNat)
      case atStart => exact ⟨0, by omega, rfl, ⟨ps, HP1.out⟩, Only.refl _⟩
      case round =>
        obtain ⟨j, hj, rfl, hlp⟩ := hrel
        have HLP := Lib.hid hlp
        have hLe := own_max HLP.out.own.choose_spec
        clear hlp
        by_cases hgo : j < ps.length
        · obtain ⟨g, z, hA, dz, fz, hst⟩ := HLP.out.step hgo
          have HSt := Lib.hid hst
          have HAe := Lib.hid hA
          clear hst
          have hyb := HLP.out.only.blk HY1.out (fun h => by have := HP6b.out _ h; omega)
          obtain ⟨y0, y1, y2, y3, y4, y5⟩ := six hyb
          subst hA
          have hwk : IntKind.i64.wrap ((j : Int) + 1) = (j : Int) + 1 := IntWalk.i64_in _ (by omega)
          have hlt : decide ((j : Int) < (ps.length : Nat)) = true := by simp; omega
          clear hLe
          go_wp2_with fail
          go_roundw
          case rel => exact ⟨j + 1, by omega, by first | rfl | go_num, HSt.out _⟩
          case measure => simp [intOf]; omega
        · have hd : decide ((j : Int) < (ps.length : Nat)) = false := by simp; omega
          obtain rfl : j = ps.length := by omega
          clear hgo hj hd hLe
          have HP2e := Lib.hid HLP.out.own
          have HY2 := Lib.hid (HLP.out.only.blk HY1.out (fun h => by have := HP6b.out _ h; omega))
          have HD2 := Lib.hid (own_only HD1.out HLP.out.only (fun k hk h => own_unlike HP1.out HD1.out (by decide) k h hk))
          have HC2c := Lib.hid (own_only HC1c.out HLP.out.only (fun k hk h => by have := HP6b.out k h; have := (own_bk HC1c.out k hk).1; have := HG7.out; omega))
          have HW2 := Lib.hid (HW1.out.trans (HLP.out.only.below HW1.out.size (fun k h => (HP6b.out k h).1)))
          clear HLP HY1 HP1 HD1 HC1c HW1
          rename World => v2
          obtain ⟨y0, y1, y2, y3, y4, y5⟩ := six HY2.out
          go_upto_region 18 with fail
          clear y0 y1 y2 y3 y4 y5
          go_loopw [57] (fun i wr => ∃ j : Nat, j ≤ dt.length ∧ i = .int .i64 j ∧ LP .u8 5 w4.heap.size Dy dt.length dy v2 wr) (fun i _ => dt.length - (intOf i).toNat)
          case atStart => exact ⟨0, by omega, rfl, ⟨dt.map fun (n : Nat) => (n : Int), by rw [List.map_map]; exact HD2.out⟩, Only.refl _⟩
          case round =>
            obtain ⟨j, hj, rfl, hlp⟩ := hrel
            have HLP := Lib.hid hlp
            have hLe := own_max HLP.out.own.choose_spec
            clear hlp
            by_cases hgo : j < dt.length
            · obtain ⟨g, z, hA, dz, fz, hst⟩ := HLP.out.step hgo
              have HSt := Lib.hid hst
              have HAe := Lib.hid hA
              clear hst
              have hyb := HLP.out.only.blk HY2.out (fun h => by have := HD6b.out _ h; omega)
              obtain ⟨y0, y1, y2, y3, y4, y5⟩ := six hyb
              subst hA
              have hwk : IntKind.i64.wrap ((j : Int) + 1) = (j : Int) + 1 := IntWalk.i64_in _ (by omega)
              have hlt : decide ((j : Int) < (dt.length : Nat)) = true := by simp; omega
              clear hLe
              go_wp2_with fail
              go_roundw
              case rel => exact ⟨j + 1, by omega, by first | rfl | go_num, HSt.out _⟩
              case measure => simp [intOf]; omega
            · have hd : decide ((j : Int) < (dt.length : Nat)) = false := by simp; omega
              obtain rfl : j = dt.length := by omega
              clear hgo hj hd hLe
              obtain ⟨zp, hp3⟩ := HP2e.out
              obtain ⟨zd, hd3⟩ := HLP.out.own
              have HP3 := Lib.hid (own_only hp3 HLP.out.only (fun k hk h => own_unlike hp3 HD2.out (by decide) k hk h))
              have HD3 := Lib.hid hd3
              have HY3 := Lib.hid (HLP.out.only.blk HY2.out (fun h => by have := HD6b.out _ h; omega))
              have HC3 := Lib.hid (own_only HC2c.out HLP.out.only (fun k hk h => by have := HD6b.out k h; have := (own_bk HC2c.out k hk).1; have := HG7.out; omega))
              have HW3 := Lib.hid (HW2.out.trans (HLP.out.only.below HW2.out.size (fun k h => (HD6b.out k h).1)))
              have HMp := Lib.hid (own_max hp3); have HMd := Lib.hid (own_max hd3)
              clear HLP HY2 HP2e HD2 HC2c HW2 hp3 hd3
              rename World => v3
              go_upto_region 22 with fail
              obtain ⟨i0, hi0, hz0, hz1, hz2⟩ := info_parts info_int
              obtain ⟨i1, hj0, hj1, hj2, hj3⟩ := info_parts info_byte
              have HI := Lib.hid (And.intro hi0 (And.intro hz0 (And.intro hz1 hz2))); have HJ := Lib.hid (And.intro hj0 (And.intro hj1 (And.intro hj2 hj3)))
              clear hi0 hz0 hz1 hz2 hj0 hj1 hj2 hj3
              have hg3l : g3 < v3.heap.size := HY3.out.lt
              have hun := own_unlike HP3.out HD3.out (by decide)
              rcases own_ways HP3.out with rfl | ⟨gp, rfl, hgp1, hgp2⟩
              all_goals rcases own_ways HD3.out with rfl | ⟨gd, rfl, hgd1, hgd2⟩
              · clear hun
                refine wp_region_mix_lit (by kernel_rfl) [(2, .letter OneP (OneF 3 v3.heap.size (.int .i64 1))), (3, .letter SlgP (fun _ _ => True)), (6, .letter OneP (OneF 5 v3.heap.size (.int .u8 1))), (7, .letter SlgP (fun _ _ => True)), (9, .smear g3), (11, .smear g3)] (by kernel_rfl) (by kernel_rfl) (by kernel_rfl) (by rfl) (by simp [apartK] <;> omega) (by simp [startK] <;> omega) (by simp only [List.forall_mem_cons, stabK]; exact ⟨one_stab _ _ _ _ (by simp [boxes, Kind.boxed]), by simp, one_stab _ _ _ _ (by simp [boxes, Kind.boxed]), by simp⟩) (⟨fun i => if i = 2 then .slice (some ⟨0, 0, none⟩) 1 1 else if i = 6 then .slice (some ⟨0, 0, none⟩) 1 1 else .slice (some ⟨0, 0, none⟩) 0 0, by simp only [List.forall_mem_cons, okK]; exact ⟨⟨0, rfl⟩, ⟨0, 0, 0, rfl⟩, ⟨0, rfl⟩, ⟨0, 0, 0, rfl⟩, by simp⟩⟩) (fun β hβ => ?_)
                obtain ⟨q2, e2⟩ := (hβ 2 : OneP (β 2))
                obtain ⟨q3, n3, c3, e3⟩ := (hβ 3 : SlgP (β 3))
                obtain ⟨q6, e6⟩ := (hβ 6 : OneP (β 6))
                obtain ⟨q7, n7, c7, e7⟩ := (hβ 7 : SlgP (β 7))
                repeat (
                  refine lex_val (v := ?_) rfl rfl (fun w' hf => ?_) ?_
                  rotate_left
                  · obtain ⟨y0, y1, y2, y3, y4, y5⟩ := six ((hf.still 9 g3 rfl (unsm_of (by kernel_rfl))).trans HY3.out); go_simp
                    try rfl
                  try simp only [Act.put, List.setIfInBounds_toArray, List.set_cons_zero, List.set_cons_succ])
                refine lex_made rfl rfl (fun w' hf => ⟨.slice (some ⟨w'.heap.size, 0, none⟩) 1 1, w'.alloc (.cells #[.int .i64 1] 3), ?_, ⟨_, rfl⟩, ⟨_, rfl, hf.only.size, Blk.new _ _ _⟩, (Below.refl _ _).alloc (Nat.le_refl _) _⟩) ?_
                · go_simp
                try simp only [Act.put, List.setIfInBounds_toArray, List.set_cons_zero, List.set_cons_succ]
                refine lex_made rfl rfl (fun w' hf => ?_) ?_
                · obtain ⟨qq, eq, _, hbq⟩ := (hf.got 2 _ _ rfl (by kernel_rfl) : OneF 3 v3.heap.size (.int .i64 1) (β 2) w')
                  rw [e2] at eq
                  simp only [Value.slice.injEq, Option.some.injEq, Addr.mk.injEq, and_true] at eq
                  subst eq
                  have how := own_eqs (w' := w') HP3.out (fun k hk => by simp [bkA] at hk)
                  obtain ⟨gg, cc, w6, hrun, _, hg6, _, _⟩ := run_append_lies (P := Tryd.prog) w' 22 22 w4.heap.size 3 i0 _ 1 8 Tryd.underlying22 HI.out.1 HI.out.2.1 HI.out.2.2.1 HI.out.2.2.2 rfl (by decide) _ ps.length _ how ⟨q2, 0, none⟩ 1 1 [.int .i64 1] rfl (fun j u hj => by
                    rw [add_cellZ, hbq.cell, ← Array.getElem?_toList]; exact hj) (by simp [Value.oneCell']) (by decide) (by have := HLen.out; unfold maxLen; omega) (by have := HLen.out; omega) (by have := hf.only.size; have := HW3.out.size; omega) w'.heap.size rfl
                  exact ⟨_, w6, exec_append (.tmp 69) (.tmp 70) 22 rfl rfl e2 hrun, ⟨gg, _, cc, rfl⟩, trivial, ⟨hg6.os, hg6.tape, hg6.output, hg6.size, fun k hk => hg6.block k hk (by simp [Value.ownBlock])⟩⟩
                try simp only [Act.put, List.setIfInBounds_toArray, List.set_cons_zero, List.set_cons_succ]
                repeat (
                  refine lex_val (v := ?_) rfl rfl (fun w' hf => ?_) ?_
                  rotate_left
                  · obtain ⟨y0, y1, y2, y3, y4, y5⟩ := six ((hf.still 9 g3 rfl (unsm_of (by kernel_rfl))).trans HY3.out); go_simp
                    try rfl
                  try simp only [Act.put, List.setIfInBounds_toArray, List.set_cons_zero, List.set_cons_succ])
                refine lex_made rfl rfl (fun w' hf => ⟨.slice (some ⟨w'.heap.size, 0, none⟩) 1 1, w'.alloc (.cells #[.int .u8 1] 5), ?_, ⟨_, rfl⟩, ⟨_, rfl, hf.only.size, Blk.new _ _ _⟩, (Below.refl _ _).alloc (Nat.le_refl _) _⟩) ?_
                · go_simp
                try simp only [Act.put, List.setIfInBounds_toArray, List.set_cons_zero, List.set_cons_succ]
                refine lex_made rfl rfl (fun w' hf => ?_) ?_
                · obtain ⟨qq, eq, _, hbq⟩ := (hf.got 6 _ _ rfl (by kernel_rfl) : OneF 5 v3.heap.size (.int .u8 1) (β 6) w')
                  rw [e6] at eq
                  simp only [Value.slice.injEq, Option.some.injEq, Addr.mk.injEq, and_true] at eq
                  subst eq
                  have how := own_eqs (w' := w') HD3.out (fun k hk => by simp [bkA] at hk)
                  obtain ⟨gg, cc, w6, hrun, _, hg6, _, _⟩ := run_append_lies (P := Tryd.prog) w' 23 23 w4.heap.size 5 i1 _ 1 1 Tryd.underlying23 HJ.out.1 HJ.out.2.1 HJ.out.2.2.1 HJ.out.2.2.2 rfl (by decide) _ dt.length _ how ⟨q6, 0, none⟩ 1 1 [.int .u8 1] rfl (fun j u hj => by
                    rw [add_cellZ, hbq.cell, ← Array.getElem?_toList]; exact hj) (by simp [Value.oneCell']) (by decide) (by have := HLen.out; unfold maxLen; omega) (by have := HLen.out; omega) (by have := hf.only.size; have := HW3.out.size; omega) w'.heap.size rfl
                  exact ⟨_, w6, exec_append (.tmp 73) (.tmp 74) 23 rfl rfl e6 hrun, ⟨gg, _, cc, rfl⟩, trivial, ⟨hg6.os, hg6.tape, hg6.output, hg6.size, fun k hk => hg6.block k hk (by simp [Value.ownBlock])⟩⟩
                try simp only [Act.put, List.setIfInBounds_toArray, List.set_cons_zero, List.set_cons_succ]
                repeat (
                  refine lex_val (v := ?_) rfl rfl (fun w' hf => ?_) ?_
                  rotate_left
                  · go_simp
                    try rfl
                  try simp only [Act.put, List.setIfInBounds_toArray, List.set_cons_zero, List.set_cons_succ])
                refine lex_smear (b := g3) rfl rfl (fun w' hf => ?_) ?_
                · obtain ⟨cs, hcs, hbc⟩ := shp_blk HY3.out (hf.shape 9 g3 rfl)
                  have fz := hbc.frozen 3
                  obtain ⟨cv, dv⟩ : ∃ cv, w'.cell? ⟨g3, 3, none⟩ = some cv := ⟨_, (hbc.cell 3).trans (Array.getElem?_eq_getElem (by omega))⟩
                  refine ⟨w'.setCell ⟨g3, 3, none⟩ (β 3), ?_, set_grown _, shp_set hbc _⟩
                  rw [e3]
                  go_simp
                try simp only [Act.put]
                repeat (
                  refine lex_val (v := ?_) rfl rfl (fun w' hf => ?_) ?_
                  rotate_left
                  · go_simp
                    try rfl
                  try simp only [Act.put, List.setIfInBounds_toArray, List.set_cons_zero, List.set_cons_succ])
                refine lex_smear (b := g3) rfl rfl (fun w' hf => ?_) ?_
                · obtain ⟨cs, hcs, hbc⟩ := shp_blk HY3.out (hf.shape 9 g3 rfl)
                  have fz := hbc.frozen 5
                  obtain ⟨cv, dv⟩ : ∃ cv, w'.cell? ⟨g3, 5, none⟩ = some cv := ⟨_, (hbc.cell 5).trans (Array.getElem?_eq_getElem (by omega))⟩
                  refine ⟨w'.setCell ⟨g3, 5, none⟩ (β 7), ?_, set_grown _, shp_set hbc _⟩
                  rw [e7]
                  go_simp
                try simp only [Act.put]
                refine lex_nil fun v4 he => ?_
                have hon := he.only
                have HC4 := Lib.hid (own_only HC3.out hon (fun k hk h => by have := (own_bk HC3.out k hk).1; have := HG7.out; simp [stores, Kind.at_] at h; omega))
                have HW4 := Lib.hid (HW3.out.trans (hon.below HW3.out.size (fun k h => by have := HG3.out; simp [stores, Kind.at_] at h; omega)))
                clear he hon hβ
                have hk4 := HK4.out.next HW4.out
                have HK5 := Lib.hid hk4
                clear hk4
                have HRt : Hid (∀ W, Below v4.heap.size v4 W → RInts W P ps ∧ RByt W D dt) := Lib.hid (fun W h => ⟨HR.out.1.next (HK5.out.2.2.1.trans (h.mono HK5.out.2.2.1.size)), HR.out.2.next (HK5.out.2.2.1.trans (h.mono HK5.out.2.2.1.size))⟩)
                have HCr := Lib.hid (OByt.reads HC4.out)
                clear HC4
                go_upto_region 23 with fail
                by_cases hq : q = 0
                · subst hq
                  have HBe := Lib.hid (HBz.out rfl)
                  have hlb : l = bl := by rw [HL.out]; rfl
                  clear HL HBz
                  subst hlb
                  refine wp_region_mix_lit (by kernel_rfl) [(1, .call (.int .i64 0)), (7, .letter (BtP l) (BtF v4.heap.size l))] (by kernel_rfl) (by kernel_rfl) (by kernel_rfl) (by rfl) (by simp [apartK] <;> omega) (by simp [startK]) (by simp only [List.forall_mem_cons, stabK]; exact ⟨trivial, bt_stab _ _ _ (by simp [boxes, Kind.boxed]), by simp⟩) (⟨fun i => .slice none l.length 0, by simp only [List.forall_mem_cons, okK]; exact ⟨trivial, ⟨none, 0, rfl⟩, by simp⟩⟩) (fun β hβ => ?_)
                  obtain ⟨A2, n2, e7⟩ := (hβ 7 : BtP l (β 7))
                  repeat (
                    refine lex_val (v := ?_) rfl rfl (fun w' hf => ?_) ?_
                    rotate_left
                    · obtain ⟨a0, a1, a2, a3, a4, a5⟩ := six (HK5.out.1.next hf.only.below0); go_simp
                      try rfl
                    try simp only [Act.put, List.setIfInBounds_toArray, List.set_cons_zero, List.set_cons_succ])
                  refine lex_call (f := 8) (args := ?_) rfl rfl (fun w' hf => ?_) (fun w' hf => ?_) ?_
                  rotate_left
                  · obtain ⟨a0, a1, a2, a3, a4, a5⟩ := six (HK5.out.1.next hf.only.below0); go_simp
                    try rfl
                  · obtain ⟨a0, a1, a2, a3, a4, a5⟩ := six (HK5.out.1.next hf.only.below0); exact HC1.out w' (HRt.out w' hf.only.below0).1 (HRt.out w' hf.only.below0).2
                  try simp only [Act.put, List.setIfInBounds_toArray, List.set_cons_zero, List.set_cons_succ]
                  repeat (
                    refine lex_val (v := ?_) rfl rfl (fun w' hf => ?_) ?_
                    rotate_left
                    · obtain ⟨a0, a1, a2, a3, a4, a5⟩ := six (HK5.out.1.next hf.only.below0); have v1 := HCv.out l Ac nc w' (HCr.out.next hf.only.below0); go_simp
                      try rfl
                    try simp only [Act.put, List.setIfInBounds_toArray, List.set_cons_zero, List.set_cons_succ])
                  refine lex_letter (f := 9) (args := ?_) rfl rfl (fun w' hf => ?_) (fun w' hf => ?_) ?_
                  rotate_left
                  · obtain ⟨a0, a1, a2, a3, a4, a5⟩ := six (HK5.out.1.next hf.only.below0); go_simp
                    try rfl
                  · obtain ⟨a0, a1, a2, a3, a4, a5⟩ := six (HK5.out.1.next hf.only.below0); exact (HBe.out w' (HRt.out w' hf.only.below0).1 (HRt.out w' hf.only.below0).2).mono (fun e w'' ⟨v, h1, h2, h3⟩ => ⟨v, h1, h2.form, own_base (obyt_own h2) hf.only.size, h3⟩)
                  try simp only [Act.put, List.setIfInBounds_toArray, List.set_cons_zero, List.set_cons_succ]
                  refine lex_val (v := ?_) rfl rfl (fun w' hf => ?_) ?_
                  rotate_left
                  · have hg : BtF v4.heap.size l (β 7) w' := hf.got 7 _ _ rfl (by kernel_rfl); rw [e7] at hg; rw [e7]; have v2 := HCv.out l A2 n2 w' (OByt.reads hg); go_simp
                    try rfl
                  try simp only [Act.put, List.setIfInBounds_toArray, List.set_cons_zero, List.set_cons_succ]
                  repeat (
                    refine lex_val (v := ?_) rfl rfl (fun w' hf => ?_) ?_
                    rotate_left
                    · go_simp
                      try rfl
                    try simp only [Act.put, List.setIfInBounds_toArray, List.set_cons_zero, List.set_cons_succ])
                  refine lex_nil fun v5 he => ?_
                  have HK6 := Lib.hid (HK5.out.next he.only.below0)
                  clear he
                  go_wp2_with fail
                  have HRu := Lib.hid (fun W (h : Below v5.heap.size v5 W) => And.intro (HR.out.1.next (HK6.out.2.2.1.trans (h.mono HK6.out.2.2.1.size))) (HR.out.2.next (HK6.out.2.2.1.trans (h.mono HK6.out.2.2.1.size))))
                  go_upto_region 25 with fail
                  refine wp_region_mix_lit (by kernel_rfl) [(1, .call (.agg (tkC k (c : Int) (m : Int) Px ps px s Dx dt dx))), (3, .call (.bool true)), (7, .letter (TlP k c m ps s dt) (TlF v5.heap.size k c m ps s dt)), (8, .call (.bool true))] (by kernel_rfl) (by kernel_rfl) (by kernel_rfl) (by rfl) (by simp [apartK] <;> omega) (by simp [startK]) (by simp only [List.forall_mem_cons, stabK]; exact ⟨trivial, trivial, tl_stab _ _ _ _ _ _ _ _ (by simp [boxes, Kind.boxed]) (by simp [boxes, Kind.boxed]), trivial, by simp⟩) (⟨fun i => .agg (tkC k (c : Int) (m : Int) none ps ps.length s none dt dt.length), by simp only [List.forall_mem_cons, okK]; exact ⟨trivial, trivial, ⟨none, _, none, _, rfl, Nat.le_refl _, Nat.le_refl _⟩, trivial, by simp⟩⟩) (fun β hβ => ?_)
                  obtain ⟨Pz, pz, Dz, dz, e7, _, _⟩ := (hβ 7 : TlP k c m ps s dt (β 7))
                  unfold tkC at *
                  repeat (
                    refine lex_val (v := ?_) rfl rfl (fun w' hf => ?_) ?_
                    rotate_left
                    · obtain ⟨x0, x1, x2, x3, x4, x5⟩ := six (HK6.out.2.1.next hf.only.below0); obtain ⟨a0, a1, a2, a3, a4, a5⟩ := six (HK6.out.1.next hf.only.below0); go_simp
                      try rfl
                    try simp only [Act.put, List.setIfInBounds_toArray, List.set_cons_zero, List.set_cons_succ])
                  refine lex_call (f := 11) (args := ?_) rfl rfl (fun w' hf => ?_) (fun w' hf => ?_) ?_
                  rotate_left
                  · obtain ⟨x0, x1, x2, x3, x4, x5⟩ := six (HK6.out.2.1.next hf.only.below0); obtain ⟨a0, a1, a2, a3, a4, a5⟩ := six (HK6.out.1.next hf.only.below0); go_simp
                    try rfl
                  · obtain ⟨x0, x1, x2, x3, x4, x5⟩ := six (HK6.out.2.1.next hf.only.below0); obtain ⟨a0, a1, a2, a3, a4, a5⟩ := six (HK6.out.1.next hf.only.below0); exact HTo.out Px px Dx dx w'
                  try simp only [Act.put, List.setIfInBounds_toArray, List.set_cons_zero, List.set_cons_succ]
                  repeat (
                    refine lex_val (v := ?_) rfl rfl (fun w' hf => ?_) ?_
                    rotate_left
                    · obtain ⟨x0, x1, x2, x3, x4, x5⟩ := six (HK6.out.2.1.next hf.only.below0); obtain ⟨a0, a1, a2, a3, a4, a5⟩ := six (HK6.out.1.next hf.only.below0); go_simp
                      try rfl
                    try simp only [Act.put, List.setIfInBounds_toArray, List.set_cons_zero, List.set_cons_succ])
                  refine lex_call (f := 10) (args := ?_) rfl rfl (fun w' hf => ?_) (fun w' hf => ?_) ?_
                  rotate_left
                  · obtain ⟨x0, x1, x2, x3, x4, x5⟩ := six (HK6.out.2.1.next hf.only.below0); obtain ⟨a0, a1, a2, a3, a4, a5⟩ := six (HK6.out.1.next hf.only.below0); go_simp
                    try rfl
                  · obtain ⟨x0, x1, x2, x3, x4, x5⟩ := six (HK6.out.2.1.next hf.only.below0); obtain ⟨a0, a1, a2, a3, a4, a5⟩ := six (HK6.out.1.next hf.only.below0); exact HRS.out Px px Dx dx w' (HK6.out.2.2.2.1.next hf.only.below0) (HRu.out w' hf.only.below0).1 (HK6.out.2.2.2.2.next hf.only.below0) (HRu.out w' hf.only.below0).2
                  try simp only [Act.put, List.setIfInBounds_toArray, List.set_cons_zero, List.set_cons_succ]
                  repeat (
                    refine lex_val (v := ?_) rfl rfl (fun w' hf => ?_) ?_
                    rotate_left
                    · obtain ⟨x0, x1, x2, x3, x4, x5⟩ := six (HK6.out.2.1.next hf.only.below0); obtain ⟨a0, a1, a2, a3, a4, a5⟩ := six (HK6.out.1.next hf.only.below0); go_simp
                      try rfl
                    try simp only [Act.put, List.setIfInBounds_toArray, List.set_cons_zero, List.set_cons_succ])
                  refine lex_letter (f := 6) (args := ?_) rfl rfl (fun w' hf => ?_) (fun w' hf => ?_) ?_
                  rotate_left
                  · obtain ⟨x0, x1, x2, x3, x4, x5⟩ := six (HK6.out.2.1.next hf.only.below0); obtain ⟨a0, a1, a2, a3, a4, a5⟩ := six (HK6.out.1.next hf.only.below0); go_simp
                    try rfl
                  · obtain ⟨x0, x1, x2, x3, x4, x5⟩ := six (HK6.out.2.1.next hf.only.below0); obtain ⟨a0, a1, a2, a3, a4, a5⟩ := six (HK6.out.1.next hf.only.below0); exact (HCp.out Px px Dx dx w' (HK6.out.2.2.2.1.next hf.only.below0) (HK6.out.2.2.2.2.next hf.only.below0)).mono (fun e w'' ⟨⟨P9, p9, D9, d9, h1, h2, h3, h4, h5⟩, h6⟩ => ⟨_, h1, ⟨P9, p9, D9, d9, rfl, h2, h3⟩, ⟨P9, p9, D9, d9, rfl, own_base (oints_own h4) hf.only.size, own_base (obyt_own h5) hf.only.size⟩, h6⟩)
                  try simp only [Act.put, List.setIfInBounds_toArray, List.set_cons_zero, List.set_cons_succ]
                  refine lex_call (f := 12) (args := #[.agg #[.int .i64 k, .int .u8 (c : Int), .int .u8 (m : Int), .slice Px ps.length px, .string s, .slice Dx dt.length dx], .agg #[.int .i64 k, .int .u8 (c : Int), .int .u8 (m : Int), .slice Pz ps.length pz, .string s, .slice Dz dt.length dz]]) rfl rfl (fun w' hf => ?_) (fun w' hf => ?_) ?_
                  · rw [e7]
                    go_simp
                  · have hg : TlF v5.heap.size k c m ps s dt (β 7) w' := hf.got 7 _ _ rfl (by kernel_rfl)
                    rw [e7] at hg
                    have hz := tl_same hg
                    exact HSa.out Px px Dx dx Pz pz Dz dz w' (HK6.out.2.2.2.1.next hf.only.below0) (OInts.reads hz.1) (HK6.out.2.2.2.2.next hf.only.below0) (OByt.reads hz.2)
                  try simp only [Act.put, List.setIfInBounds_toArray, List.set_cons_zero, List.set_cons_succ]
                  repeat (
                    refine lex_val (v := ?_) rfl rfl (fun w' hf => ?_) ?_
                    rotate_left
                    · go_simp
                      try rfl
                    try simp only [Act.put, List.setIfInBounds_toArray, List.set_cons_zero, List.set_cons_succ])
                  refine lex_nil fun v6 he => ?_
                  have HK7 := Lib.hid (HK6.out.next he.only.below0)
                  clear he
                  go_wp2_with fail
                  go_ret
                  exact ⟨rfl, HK7.out.2.2.1⟩
                · have hq2 : (q == 0) = false := by simpa using hq
                  clear HBz HL hq
                  refine wp_region_mix_lit (by kernel_rfl) [(1, .call (.int .i64 q))] (by kernel_rfl) (by kernel_rfl) (by kernel_rfl) (by rfl) (by simp [apartK] <;> omega) (by simp [startK]) (by simp [stabK]) (⟨fun _ => undef, by simp [okK]⟩) (fun β hβ => ?_)
                  repeat (
                    refine lex_val (v := ?_) rfl rfl (fun w' hf => ?_) ?_
                    rotate_left
                    · obtain ⟨a0, a1, a2, a3, a4, a5⟩ := six (HK5.out.1.next hf.only.below0); go_simp
                      try rfl
                    try simp only [Act.put, List.setIfInBounds_toArray, List.set_cons_zero, List.set_cons_succ])
                  refine lex_call (f := 8) (args := ?_) rfl rfl (fun w' hf => ?_) (fun w' hf => ?_) ?_
                  rotate_left
                  · obtain ⟨a0, a1, a2, a3, a4, a5⟩ := six (HK5.out.1.next hf.only.below0); go_simp
                    try rfl
                  · obtain ⟨a0, a1, a2, a3, a4, a5⟩ := six (HK5.out.1.next hf.only.below0); exact HC1.out w' (HRt.out w' hf.only.below0).1 (HRt.out w' hf.only.below0).2
                  try simp only [Act.put, List.setIfInBounds_toArray, List.set_cons_zero, List.set_cons_succ]
                  repeat (
                    refine lex_val (v := ?_) rfl rfl (fun w' hf => ?_) ?_
                    rotate_left
                    · go_simp
                      try rfl
                    try simp only [Act.put, List.setIfInBounds_toArray, List.set_cons_zero, List.set_cons_succ])
                  repeat (
                    refine lex_skip rfl rfl ?_
                    try simp only [Act.put, List.setIfInBounds_toArray, List.set_cons_zero, List.set_cons_succ])
                  repeat (
                    refine lex_val (v := ?_) rfl rfl (fun w' hf => ?_) ?_
                    rotate_left
                    · go_simp
                      try rfl
                    try simp only [Act.put, List.setIfInBounds_toArray, List.set_cons_zero, List.set_cons_succ])
                  refine lex_nil fun v5 he => ?_
                  have HK6 := Lib.hid (HK5.out.next he.only.below0)
                  clear he
                  go_wp2_with fail
                  have HRu := Lib.hid (fun W (h : Below v5.heap.size v5 W) => And.intro (HR.out.1.next (HK6.out.2.2.1.trans (h.mono HK6.out.2.2.1.size))) (HR.out.2.next (HK6.out.2.2.1.trans (h.mono HK6.out.2.2.1.size))))
                  go_upto_region 25 with fail
                  refine wp_region_mix_lit (by kernel_rfl) [(1, .call (.agg (tkC k (c : Int) (m : Int) Px ps px s Dx dt dx))), (3, .call (.bool true)), (7, .letter (TlP k c m ps s dt) (TlF v5.heap.size k c m ps s dt)), (8, .call (.bool true))] (by kernel_rfl) (by kernel_rfl) (by kernel_rfl) (by rfl) (by simp [apartK] <;> omega) (by simp [startK]) (by simp only [List.forall_mem_cons, stabK]; exact ⟨trivial, trivial, tl_stab _ _ _ _ _ _ _ _ (by simp [boxes, Kind.boxed]) (by simp [boxes, Kind.boxed]), trivial, by simp⟩) (⟨fun i => .agg (tkC k (c : Int) (m : Int) none ps ps.length s none dt dt.length), by simp only [List.forall_mem_cons, okK]; exact ⟨trivial, trivial, ⟨none, _, none, _, rfl, Nat.le_refl _, Nat.le_refl _⟩, trivial, by simp⟩⟩) (fun β hβ => ?_)
                  obtain ⟨Pz, pz, Dz, dz, e7, _, _⟩ := (hβ 7 : TlP k c m ps s dt (β 7))
                  unfold tkC at *
                  repeat (
                    refine lex_val (v := ?_) rfl rfl (fun w' hf => ?_) ?_
                    rotate_left
                    · obtain ⟨x0, x1, x2, x3, x4, x5⟩ := six (HK6.out.2.1.next hf.only.below0); obtain ⟨a0, a1, a2, a3, a4, a5⟩ := six (HK6.out.1.next hf.only.below0); go_simp
                      try rfl
                    try simp only [Act.put, List.setIfInBounds_toArray, List.set_cons_zero, List.set_cons_succ])
                  refine lex_call (f := 11) (args := ?_) rfl rfl (fun w' hf => ?_) (fun w' hf => ?_) ?_
                  rotate_left
                  · obtain ⟨x0, x1, x2, x3, x4, x5⟩ := six (HK6.out.2.1.next hf.only.below0); obtain ⟨a0, a1, a2, a3, a4, a5⟩ := six (HK6.out.1.next hf.only.below0); go_simp
                    try rfl
                  · obtain ⟨x0, x1, x2, x3, x4, x5⟩ := six (HK6.out.2.1.next hf.only.below0); obtain ⟨a0, a1, a2, a3, a4, a5⟩ := six (HK6.out.1.next hf.only.below0); exact HTo.out Px px Dx dx w'
                  try simp only [Act.put, List.setIfInBounds_toArray, List.set_cons_zero, List.set_cons_succ]
                  repeat (
                    refine lex_val (v := ?_) rfl rfl (fun w' hf => ?_) ?_
                    rotate_left
                    · obtain ⟨x0, x1, x2, x3, x4, x5⟩ := six (HK6.out.2.1.next hf.only.below0); obtain ⟨a0, a1, a2, a3, a4, a5⟩ := six (HK6.out.1.next hf.only.below0); go_simp
                      try rfl
                    try simp only [Act.put, List.setIfInBounds_toArray, List.set_cons_zero, List.set_cons_succ])
                  refine lex_call (f := 10) (args := ?_) rfl rfl (fun w' hf => ?_) (fun w' hf => ?_) ?_
                  rotate_left
                  · obtain ⟨x0, x1, x2, x3, x4, x5⟩ := six (HK6.out.2.1.next hf.only.below0); obtain ⟨a0, a1, a2, a3, a4, a5⟩ := six (HK6.out.1.next hf.only.below0); go_simp
                    try rfl
                  · obtain ⟨x0, x1, x2, x3, x4, x5⟩ := six (HK6.out.2.1.next hf.only.below0); obtain ⟨a0, a1, a2, a3, a4, a5⟩ := six (HK6.out.1.next hf.only.below0); exact HRS.out Px px Dx dx w' (HK6.out.2.2.2.1.next hf.only.below0) (HRu.out w' hf.only.below0).1 (HK6.out.2.2.2.2.next hf.only.below0) (HRu.out w' hf.only.below0).2
                  try simp only [Act.put, List.setIfInBounds_toArray, List.set_cons_zero, List.set_cons_succ]
                  repeat (
                    refine lex_val (v := ?_) rfl rfl (fun w' hf => ?_) ?_
                    rotate_left
                    · obtain ⟨x0, x1, x2, x3, x4, x5⟩ := six (HK6.out.2.1.next hf.only.below0); obtain ⟨a0, a1, a2, a3, a4, a5⟩ := six (HK6.out.1.next hf.only.below0); go_simp
                      try rfl
                    try simp only [Act.put, List.setIfInBounds_toArray, List.set_cons_zero, List.set_cons_succ])
                  refine lex_letter (f := 6) (args := ?_) rfl rfl (fun w' hf => ?_) (fun w' hf => ?_) ?_
                  rotate_left
                  · obtain ⟨x0, x1, x2, x3, x4, x5⟩ := six (HK6.out.2.1.next hf.only.below0); obtain ⟨a0, a1, a2, a3, a4, a5⟩ := six (HK6.out.1.next hf.only.below0); go_simp
                    try rfl
                  · obtain ⟨x0, x1, x2, x3, x4, x5⟩ := six (HK6.out.2.1.next hf.only.below0); obtain ⟨a0, a1, a2, a3, a4, a5⟩ := six (HK6.out.1.next hf.only.below0); exact (HCp.out Px px Dx dx w' (HK6.out.2.2.2.1.next hf.only.below0) (HK6.out.2.2.2.2.next hf.only.below0)).mono (fun e w'' ⟨⟨P9, p9, D9, d9, h1, h2, h3, h4, h5⟩, h6⟩ => ⟨_, h1, ⟨P9, p9, D9, d9, rfl, h2, h3⟩, ⟨P9, p9, D9, d9, rfl, own_base (oints_own h4) hf.only.size, own_base (obyt_own h5) hf.only.size⟩, h6⟩)
                  try simp only [Act.put, List.setIfInBounds_toArray, List.set_cons_zero, List.set_cons_succ]
                  refine lex_call (f := 12) (args := #[.agg #[.int .i64 k, .int .u8 (c : Int), .int .u8 (m : Int), .slice Px ps.length px, .string s, .slice Dx dt.length dx], .agg #[.int .i64 k, .int .u8 (c : Int), .int .u8 (m : Int), .slice Pz ps.length pz, .string s, .slice Dz dt.length dz]]) rfl rfl (fun w' hf => ?_) (fun w' hf => ?_) ?_
                  · rw [e7]
                    go_simp
                  · have hg : TlF v5.heap.size k c m ps s dt (β 7) w' := hf.got 7 _ _ rfl (by kernel_rfl)
                    rw [e7] at hg
                    have hz := tl_same hg
                    exact HSa.out Px px Dx dx Pz pz Dz dz w' (HK6.out.2.2.2.1.next hf.only.below0) (OInts.reads hz.1) (HK6.out.2.2.2.2.next hf.only.below0) (OByt.reads hz.2)
                  try simp only [Act.put, List.setIfInBounds_toArray, List.set_cons_zero, List.set_cons_succ]
                  repeat (
                    refine lex_val (v := ?_) rfl rfl (fun w' hf => ?_) ?_
                    rotate_left
                    · go_simp
                      try rfl
                    try simp only [Act.put, List.setIfInBounds_toArray, List.set_cons_zero, List.set_cons_succ])
                  refine lex_nil fun v6 he => ?_
                  have HK7 := Lib.hid (HK6.out.next he.only.below0)
                  clear he
                  go_wp2_with fail
                  go_ret
                  exact ⟨rfl, HK7.out.2.2.1⟩
              · have hd6 := HD6b.out gd (by simp [bkA])
                clear hun
                refine wp_region_mix_lit (by kernel_rfl) [(2, .letter OneP (OneF 3 v3.heap.size (.int .i64 1))), (3, .letter SlgP (fun _ _ => True)), (6, .letter OneP (OneF 5 v3.heap.size (.int .u8 1))), (7, .grow gd SlgP (fun _ _ => True)), (9, .smear g3), (11, .smear g3)] (by kernel_rfl) (by kernel_rfl) (by kernel_rfl) (by rfl) (by simp [apartK] <;> omega) (by simp [startK] <;> omega) (by simp only [List.forall_mem_cons, stabK]; exact ⟨one_stab _ _ _ _ (by simp [boxes, Kind.boxed]), by simp, one_stab _ _ _ _ (by simp [boxes, Kind.boxed]), by simp⟩) (⟨fun i => if i = 2 then .slice (some ⟨0, 0, none⟩) 1 1 else if i = 6 then .slice (some ⟨0, 0, none⟩) 1 1 else .slice (some ⟨0, 0, none⟩) 0 0, by simp only [List.forall_mem_cons, okK]; exact ⟨⟨0, rfl⟩, ⟨0, 0, 0, rfl⟩, ⟨0, rfl⟩, ⟨0, 0, 0, rfl⟩, by simp⟩⟩) (fun β hβ => ?_)
                obtain ⟨q2, e2⟩ := (hβ 2 : OneP (β 2))
                obtain ⟨q3, n3, c3, e3⟩ := (hβ 3 : SlgP (β 3))
                obtain ⟨q6, e6⟩ := (hβ 6 : OneP (β 6))
                obtain ⟨q7, n7, c7, e7⟩ := (hβ 7 : SlgP (β 7))
                repeat (
                  refine lex_val (v := ?_) rfl rfl (fun w' hf => ?_) ?_
                  rotate_left
                  · obtain ⟨y0, y1, y2, y3, y4, y5⟩ := six ((hf.still 9 g3 rfl (unsm_of (by kernel_rfl))).trans HY3.out); go_simp
                    try rfl
                  try simp only [Act.put, List.setIfInBounds_toArray, List.set_cons_zero, List.set_cons_succ])
                refine lex_made rfl rfl (fun w' hf => ⟨.slice (some ⟨w'.heap.size, 0, none⟩) 1 1, w'.alloc (.cells #[.int .i64 1] 3), ?_, ⟨_, rfl⟩, ⟨_, rfl, hf.only.size, Blk.new _ _ _⟩, (Below.refl _ _).alloc (Nat.le_refl _) _⟩) ?_
                · go_simp
                try simp only [Act.put, List.setIfInBounds_toArray, List.set_cons_zero, List.set_cons_succ]
                refine lex_made rfl rfl (fun w' hf => ?_) ?_
                · obtain ⟨qq, eq, _, hbq⟩ := (hf.got 2 _ _ rfl (by kernel_rfl) : OneF 3 v3.heap.size (.int .i64 1) (β 2) w')
                  rw [e2] at eq
                  simp only [Value.slice.injEq, Option.some.injEq, Addr.mk.injEq, and_true] at eq
                  subst eq
                  have how := own_eqs (w' := w') HP3.out (fun k hk => by simp [bkA] at hk)
                  obtain ⟨gg, cc, w6, hrun, _, hg6, _, _⟩ := run_append_lies (P := Tryd.prog) w' 22 22 w4.heap.size 3 i0 _ 1 8 Tryd.underlying22 HI.out.1 HI.out.2.1 HI.out.2.2.1 HI.out.2.2.2 rfl (by decide) _ ps.length _ how ⟨q2, 0, none⟩ 1 1 [.int .i64 1] rfl (fun j u hj => by
                    rw [add_cellZ, hbq.cell, ← Array.getElem?_toList]; exact hj) (by simp [Value.oneCell']) (by decide) (by have := HLen.out; unfold maxLen; omega) (by have := HLen.out; omega) (by have := hf.only.size; have := HW3.out.size; omega) w'.heap.size rfl
                  exact ⟨_, w6, exec_append (.tmp 69) (.tmp 70) 22 rfl rfl e2 hrun, ⟨gg, _, cc, rfl⟩, trivial, ⟨hg6.os, hg6.tape, hg6.output, hg6.size, fun k hk => hg6.block k hk (by simp [Value.ownBlock])⟩⟩
                try simp only [Act.put, List.setIfInBounds_toArray, List.set_cons_zero, List.set_cons_succ]
                repeat (
                  refine lex_val (v := ?_) rfl rfl (fun w' hf => ?_) ?_
                  rotate_left
                  · obtain ⟨y0, y1, y2, y3, y4, y5⟩ := six ((hf.still 9 g3 rfl (unsm_of (by kernel_rfl))).trans HY3.out); go_simp
                    try rfl
                  try simp only [Act.put, List.setIfInBounds_toArray, List.set_cons_zero, List.set_cons_succ])
                refine lex_made rfl rfl (fun w' hf => ⟨.slice (some ⟨w'.heap.size, 0, none⟩) 1 1, w'.alloc (.cells #[.int .u8 1] 5), ?_, ⟨_, rfl⟩, ⟨_, rfl, hf.only.size, Blk.new _ _ _⟩, (Below.refl _ _).alloc (Nat.le_refl _) _⟩) ?_
                · go_simp
                try simp only [Act.put, List.setIfInBounds_toArray, List.set_cons_zero, List.set_cons_succ]
                refine lex_grow (b := gd) rfl rfl (fun w' hf => ?_) ?_
                · obtain ⟨qq, eq, _, hbq⟩ := (hf.got 6 _ _ rfl (by kernel_rfl) : OneF 5 v3.heap.size (.int .u8 1) (β 6) w')
                  rw [e6] at eq
                  simp only [Value.slice.injEq, Option.some.injEq, Addr.mk.injEq, and_true] at eq
                  subst eq
                  have how := own_eqs (w' := w') HD3.out (fun k hk => by obtain rfl : k = gd := (by simpa [bkA] using hk); exact hf.grew 7 k _ _ rfl (.inl rfl))
                  obtain ⟨gg, cc, w6, hrun, _, hg6, _, _⟩ := run_append_lies (P := Tryd.prog) w' 23 23 w4.heap.size 5 i1 _ 1 1 Tryd.underlying23 HJ.out.1 HJ.out.2.1 HJ.out.2.2.1 HJ.out.2.2.2 rfl (by decide) _ dt.length _ how ⟨q6, 0, none⟩ 1 1 [.int .u8 1] rfl (fun j u hj => by
                    rw [add_cellZ, hbq.cell, ← Array.getElem?_toList]; exact hj) (by simp [Value.oneCell']) (by decide) (by have := HLen.out; unfold maxLen; omega) (by have := HLen.out; omega) (by have := hf.only.size; have := HW3.out.size; omega) w'.heap.size rfl
                  exact ⟨_, w6, exec_append (.tmp 73) (.tmp 74) 23 rfl rfl e6 hrun, ⟨gg, _, cc, rfl⟩, trivial, by simpa [Value.ownBlock] using hg6⟩
                try simp only [Act.put, List.setIfInBounds_toArray, List.set_cons_zero, List.set_cons_succ]
                repeat (
                  refine lex_val (v := ?_) rfl rfl (fun w' hf => ?_) ?_
                  rotate_left
                  · go_simp
                    try rfl
                  try simp only [Act.put, List.setIfInBounds_toArray, List.set_cons_zero, List.set_cons_succ])
                refine lex_smear (b := g3) rfl rfl (fun w' hf => ?_) ?_
                · obtain ⟨cs, hcs, hbc⟩ := shp_blk HY3.out (hf.shape 9 g3 rfl)
                  have fz := hbc.frozen 3
                  obtain ⟨cv, dv⟩ : ∃ cv, w'.cell? ⟨g3, 3, none⟩ = some cv := ⟨_, (hbc.cell 3).trans (Array.getElem?_eq_getElem (by omega))⟩
                  refine ⟨w'.setCell ⟨g3, 3, none⟩ (β 3), ?_, set_grown _, shp_set hbc _⟩
                  rw [e3]
                  go_simp
                try simp only [Act.put]
                repeat (
                  refine lex_val (v := ?_) rfl rfl (fun w' hf => ?_) ?_
                  rotate_left
                  · go_simp
                    try rfl
                  try simp only [Act.put, List.setIfInBounds_toArray, List.set_cons_zero, List.set_cons_succ])
                refine lex_smear (b := g3) rfl rfl (fun w' hf => ?_) ?_
                · obtain ⟨cs, hcs, hbc⟩ := shp_blk HY3.out (hf.shape 9 g3 rfl)
                  have fz := hbc.frozen 5
                  obtain ⟨cv, dv⟩ : ∃ cv, w'.cell? ⟨g3, 5, none⟩ = some cv := ⟨_, (hbc.cell 5).trans (Array.getElem?_eq_getElem (by omega))⟩
                  refine ⟨w'.setCell ⟨g3, 5, none⟩ (β 7), ?_, set_grown _, shp_set hbc _⟩
                  rw [e7]
                  go_simp
                try simp only [Act.put]
                refine lex_nil fun v4 he => ?_
                have hon := he.only
                have HC4 := Lib.hid (own_only HC3.out hon (fun k hk h => by have := (own_bk HC3.out k hk).1; have := HG7.out; simp [stores, Kind.at_] at h; omega))
                have HW4 := Lib.hid (HW3.out.trans (hon.below HW3.out.size (fun k h => by have := HG3.out; simp [stores, Kind.at_] at h; omega)))
                clear he hon hβ
                have hk4 := HK4.out.next HW4.out
                have HK5 := Lib.hid hk4
                clear hk4
                have HRt : Hid (∀ W, Below v4.heap.size v4 W → RInts W P ps ∧ RByt W D dt) := Lib.hid (fun W h => ⟨HR.out.1.next (HK5.out.2.2.1.trans (h.mono HK5.out.2.2.1.size)), HR.out.2.next (HK5.out.2.2.1.trans (h.mono HK5.out.2.2.1.size))⟩)
                have HCr := Lib.hid (OByt.reads HC4.out)
                clear HC4
                go_upto_region 23 with fail
                by_cases hq : q = 0
                · subst hq
                  have HBe := Lib.hid (HBz.out rfl)
                  have hlb : l = bl := by rw [HL.out]; rfl
                  clear HL HBz
                  subst hlb
                  refine wp_region_mix_lit (by kernel_rfl) [(1, .call (.int .i64 0)), (7, .letter (BtP l) (BtF v4.heap.size l))] (by kernel_rfl) (by kernel_rfl) (by kernel_rfl) (by rfl) (by simp [apartK] <;> omega) (by simp [startK]) (by simp only [List.forall_mem_cons, stabK]; exact ⟨trivial, bt_stab _ _ _ (by simp [boxes, Kind.boxed]), by simp⟩) (⟨fun i => .slice none l.length 0, by simp only [List.forall_mem_cons, okK]; exact ⟨trivial, ⟨none, 0, rfl⟩, by simp⟩⟩) (fun β hβ => ?_)
                  obtain ⟨A2, n2, e7⟩ := (hβ 7 : BtP l (β 7))
                  repeat (
                    refine lex_val (v := ?_) rfl rfl (fun w' hf => ?_) ?_
                    rotate_left
                    · obtain ⟨a0, a1, a2, a3, a4, a5⟩ := six (HK5.out.1.next hf.only.below0); go_simp
                      try rfl
                    try simp only [Act.put, List.setIfInBounds_toArray, List.set_cons_zero, List.set_cons_succ])
                  refine lex_call (f := 8) (args := ?_) rfl rfl (fun w' hf => ?_) (fun w' hf => ?_) ?_
                  rotate_left
                  · obtain ⟨a0, a1, a2, a3, a4, a5⟩ := six (HK5.out.1.next hf.only.below0); go_simp
                    try rfl
                  · obtain ⟨a0, a1, a2, a3, a4, a5⟩ := six (HK5.out.1.next hf.only.below0); exact HC1.out w' (HRt.out w' hf.only.below0).1 (HRt.out w' hf.only.below0).2
                  try simp only [Act.put, List.setIfInBounds_toArray, List.set_cons_zero, List.set_cons_succ]
                  repeat (
                    refine lex_val (v := ?_) rfl rfl (fun w' hf => ?_) ?_
                    rotate_left
                    · obtain ⟨a0, a1, a2, a3, a4, a5⟩ := six (HK5.out.1.next hf.only.below0); have v1 := HCv.out l Ac nc w' (HCr.out.next hf.only.below0); go_simp
                      try rfl
                    try simp only [Act.put, List.setIfInBounds_toArray, List.set_cons_zero, List.set_cons_succ])
                  refine lex_letter (f := 9) (args := ?_) rfl rfl (fun w' hf => ?_) (fun w' hf => ?_) ?_
                  rotate_left
                  · obtain ⟨a0, a1, a2, a3, a4, a5⟩ := six (HK5.out.1.next hf.only.below0); go_simp
                    try rfl
                  · obtain ⟨a0, a1, a2, a3, a4, a5⟩ := six (HK5.out.1.next hf.only.below0); exact (HBe.out w' (HRt.out w' hf.only.below0).1 (HRt.out w' hf.only.below0).2).mono (fun e w'' ⟨v, h1, h2, h3⟩ => ⟨v, h1, h2.form, own_base (obyt_own h2) hf.only.size, h3⟩)
                  try simp only [Act.put, List.setIfInBounds_toArray, List.set_cons_zero, List.set_cons_succ]
                  refine lex_val (v := ?_) rfl rfl (fun w' hf => ?_) ?_
                  rotate_left
                  · have hg : BtF v4.heap.size l (β 7) w' := hf.got 7 _ _ rfl (by kernel_rfl); rw [e7] at hg; rw [e7]; have v2 := HCv.out l A2 n2 w' (OByt.reads hg); go_simp
                    try rfl
                  try simp only [Act.put, List.setIfInBounds_toArray, List.set_cons_zero, List.set_cons_succ]
                  repeat (
                    refine lex_val (v := ?_) rfl rfl (fun w' hf => ?_) ?_
                    rotate_left
                    · go_simp
                      try rfl
                    try simp only [Act.put, List.setIfInBounds_toArray, List.set_cons_zero, List.set_cons_succ])
                  refine lex_nil fun v5 he => ?_
                  have HK6 := Lib.hid (HK5.out.next he.only.below0)
                  clear he
                  go_wp2_with fail
                  have HRu := Lib.hid (fun W (h : Below v5.heap.size v5 W) => And.intro (HR.out.1.next (HK6.out.2.2.1.trans (h.mono HK6.out.2.2.1.size))) (HR.out.2.next (HK6.out.2.2.1.trans (h.mono HK6.out.2.2.1.size))))
                  go_upto_region 25 with fail
                  refine wp_region_mix_lit (by kernel_rfl) [(1, .call (.agg (tkC k (c : Int) (m : Int) Px ps px s Dx dt dx))), (3, .call (.bool true)), (7, .letter (TlP k c m ps s dt) (TlF v5.heap.size k c m ps s dt)), (8, .call (.bool true))] (by kernel_rfl) (by kernel_rfl) (by kernel_rfl) (by rfl) (by simp [apartK] <;> omega) (by simp [startK]) (by simp only [List.forall_mem_cons, stabK]; exact ⟨trivial, trivial, tl_stab _ _ _ _ _ _ _ _ (by simp [boxes, Kind.boxed]) (by simp [boxes, Kind.boxed]), trivial, by simp⟩) (⟨fun i => .agg (tkC k (c : Int) (m : Int) none ps ps.length s none dt dt.length), by simp only [List.forall_mem_cons, okK]; exact ⟨trivial, trivial, ⟨none, _, none, _, rfl, Nat.le_refl _, Nat.le_refl _⟩, trivial, by simp⟩⟩) (fun β hβ => ?_)
                  obtain ⟨Pz, pz, Dz, dz, e7, _, _⟩ := (hβ 7 : TlP k c m ps s dt (β 7))
                  unfold tkC at *
                  repeat (
                    refine lex_val (v := ?_) rfl rfl (fun w' hf => ?_) ?_
                    rotate_left
                    · obtain ⟨x0, x1, x2, x3, x4, x5⟩ := six (HK6.out.2.1.next hf.only.below0); obtain ⟨a0, a1, a2, a3, a4, a5⟩ := six (HK6.out.1.next hf.only.below0); go_simp
                      try rfl
                    try simp only [Act.put, List.setIfInBounds_toArray, List.set_cons_zero, List.set_cons_succ])
                  refine lex_call (f := 11) (args := ?_) rfl rfl (fun w' hf => ?_) (fun w' hf => ?_) ?_
                  rotate_left
                  · obtain ⟨x0, x1, x2, x3, x4, x5⟩ := six (HK6.out.2.1.next hf.only.below0); obtain ⟨a0, a1, a2, a3, a4, a5⟩ := six (HK6.out.1.next hf.only.below0); go_simp
                    try rfl
                  · obtain ⟨x0, x1, x2, x3, x4, x5⟩ := six (HK6.out.2.1.next hf.only.below0); obtain ⟨a0, a1, a2, a3, a4, a5⟩ := six (HK6.out.1.next hf.only.below0); exact HTo.out Px px Dx dx w'
                  try simp only [Act.put, List.setIfInBounds_toArray, List.set_cons_zero, List.set_cons_succ]
                  repeat (
                    refine lex_val (v := ?_) rfl rfl (fun w' hf => ?_) ?_
                    rotate_left
                    · obtain ⟨x0, x1, x2, x3, x4, x5⟩ := six (HK6.out.2.1.next hf.only.below0); obtain ⟨a0, a1, a2, a3, a4, a5⟩ := six (HK6.out.1.next hf.only.below0); go_simp
                      try rfl
                    try simp only [Act.put, List.setIfInBounds_toArray, List.set_cons_zero, List.set_cons_succ])
                  refine lex_call (f := 10) (args := ?_) rfl rfl (fun w' hf => ?_) (fun w' hf => ?_) ?_
                  rotate_left
                  · obtain ⟨x0, x1, x2, x3, x4, x5⟩ := six (HK6.out.2.1.next hf.only.below0); obtain ⟨a0, a1, a2, a3, a4, a5⟩ := six (HK6.out.1.next hf.only.below0); go_simp
                    try rfl
                  · obtain ⟨x0, x1, x2, x3, x4, x5⟩ := six (HK6.out.2.1.next hf.only.below0); obtain ⟨a0, a1, a2, a3, a4, a5⟩ := six (HK6.out.1.next hf.only.below0); exact HRS.out Px px Dx dx w' (HK6.out.2.2.2.1.next hf.only.below0) (HRu.out w' hf.only.below0).1 (HK6.out.2.2.2.2.next hf.only.below0) (HRu.out w' hf.only.below0).2
                  try simp only [Act.put, List.setIfInBounds_toArray, List.set_cons_zero, List.set_cons_succ]
                  repeat (
                    refine lex_val (v := ?_) rfl rfl (fun w' hf => ?_) ?_
                    rotate_left
                    · obtain ⟨x0, x1, x2, x3, x4, x5⟩ := six (HK6.out.2.1.next hf.only.below0); obtain ⟨a0, a1, a2, a3, a4, a5⟩ := six (HK6.out.1.next hf.only.below0); go_simp
                      try rfl
                    try simp only [Act.put, List.setIfInBounds_toArray, List.set_cons_zero, List.set_cons_succ])
                  refine lex_letter (f := 6) (args := ?_) rfl rfl (fun w' hf => ?_) (fun w' hf => ?_) ?_
                  rotate_left
                  · obtain ⟨x0, x1, x2, x3, x4, x5⟩ := six (HK6.out.2.1.next hf.only.below0); obtain ⟨a0, a1, a2, a3, a4, a5⟩ := six (HK6.out.1.next hf.only.below0); go_simp
                    try rfl
                  · obtain ⟨x0, x1, x2, x3, x4, x5⟩ := six (HK6.out.2.1.next hf.only.below0); obtain ⟨a0, a1, a2, a3, a4, a5⟩ := six (HK6.out.1.next hf.only.below0); exact (HCp.out Px px Dx dx w' (HK6.out.2.2.2.1.next hf.only.below0) (HK6.out.2.2.2.2.next hf.only.below0)).mono (fun e w'' ⟨⟨P9, p9, D9, d9, h1, h2, h3, h4, h5⟩, h6⟩ => ⟨_, h1, ⟨P9, p9, D9, d9, rfl, h2, h3⟩, ⟨P9, p9, D9, d9, rfl, own_base (oints_own h4) hf.only.size, own_base (obyt_own h5) hf.only.size⟩, h6⟩)
                  try simp only [Act.put, List.setIfInBounds_toArray, List.set_cons_zero, List.set_cons_succ]
                  refine lex_call (f := 12) (args := #[.agg #[.int .i64 k, .int .u8 (c : Int), .int .u8 (m : Int), .slice Px ps.length px, .string s, .slice Dx dt.length dx], .agg #[.int .i64 k, .int .u8 (c : Int), .int .u8 (m : Int), .slice Pz ps.length pz, .string s, .slice Dz dt.length dz]]) rfl rfl (fun w' hf => ?_) (fun w' hf => ?_) ?_
                  · rw [e7]
                    go_simp
                  · have hg : TlF v5.heap.size k c m ps s dt (β 7) w' := hf.got 7 _ _ rfl (by kernel_rfl)
                    rw [e7] at hg
                    have hz := tl_same hg
                    exact HSa.out Px px Dx dx Pz pz Dz dz w' (HK6.out.2.2.2.1.next hf.only.below0) (OInts.reads hz.1) (HK6.out.2.2.2.2.next hf.only.below0) (OByt.reads hz.2)
                  try simp only [Act.put, List.setIfInBounds_toArray, List.set_cons_zero, List.set_cons_succ]
                  repeat (
                    refine lex_val (v := ?_) rfl rfl (fun w' hf => ?_) ?_
                    rotate_left
                    · go_simp
                      try rfl
                    try simp only [Act.put, List.setIfInBounds_toArray, List.set_cons_zero, List.set_cons_succ])
                  refine lex_nil fun v6 he => ?_
                  have HK7 := Lib.hid (HK6.out.next he.only.below0)
                  clear he
                  go_wp2_with fail
                  go_ret
                  exact ⟨rfl, HK7.out.2.2.1⟩
                · have hq2 : (q == 0) = false := by simpa using hq
                  clear HBz HL hq
                  refine wp_region_mix_lit (by kernel_rfl) [(1, .call (.int .i64 q))] (by kernel_rfl) (by kernel_rfl) (by kernel_rfl) (by rfl) (by simp [apartK] <;> omega) (by simp [startK]) (by simp [stabK]) (⟨fun _ => undef, by simp [okK]⟩) (fun β hβ => ?_)
                  repeat (
                    refine lex_val (v := ?_) rfl rfl (fun w' hf => ?_) ?_
                    rotate_left
                    · obtain ⟨a0, a1, a2, a3, a4, a5⟩ := six (HK5.out.1.next hf.only.below0); go_simp
                      try rfl
                    try simp only [Act.put, List.setIfInBounds_toArray, List.set_cons_zero, List.set_cons_succ])
                  refine lex_call (f := 8) (args := ?_) rfl rfl (fun w' hf => ?_) (fun w' hf => ?_) ?_
                  rotate_left
                  · obtain ⟨a0, a1, a2, a3, a4, a5⟩ := six (HK5.out.1.next hf.only.below0); go_simp
                    try rfl
                  · obtain ⟨a0, a1, a2, a3, a4, a5⟩ := six (HK5.out.1.next hf.only.below0); exact HC1.out w' (HRt.out w' hf.only.below0).1 (HRt.out w' hf.only.below0).2
                  try simp only [Act.put, List.setIfInBounds_toArray, List.set_cons_zero, List.set_cons_succ]
                  repeat (
                    refine lex_val (v := ?_) rfl rfl (fun w' hf => ?_) ?_
                    rotate_left
                    · go_simp
                      try rfl
                    try simp only [Act.put, List.setIfInBounds_toArray, List.set_cons_zero, List.set_cons_succ])
                  repeat (
                    refine lex_skip rfl rfl ?_
                    try simp only [Act.put, List.setIfInBounds_toArray, List.set_cons_zero, List.set_cons_succ])
                  repeat (
                    refine lex_val (v := ?_) rfl rfl (fun w' hf => ?_) ?_
                    rotate_left
                    · go_simp
                      try rfl
                    try simp only [Act.put, List.setIfInBounds_toArray, List.set_cons_zero, List.set_cons_succ])
                  refine lex_nil fun v5 he => ?_
                  have HK6 := Lib.hid (HK5.out.next he.only.below0)
                  clear he
                  go_wp2_with fail
                  have HRu := Lib.hid (fun W (h : Below v5.heap.size v5 W) => And.intro (HR.out.1.next (HK6.out.2.2.1.trans (h.mono HK6.out.2.2.1.size))) (HR.out.2.next (HK6.out.2.2.1.trans (h.mono HK6.out.2.2.1.size))))
                  go_upto_region 25 with fail
                  refine wp_region_mix_lit (by kernel_rfl) [(1, .call (.agg (tkC k (c : Int) (m : Int) Px ps px s Dx dt dx))), (3, .call (.bool true)), (7, .letter (TlP k c m ps s dt) (TlF v5.heap.size k c m ps s dt)), (8, .call (.bool true))] (by kernel_rfl) (by kernel_rfl) (by kernel_rfl) (by rfl) (by simp [apartK] <;> omega) (by simp [startK]) (by simp only [List.forall_mem_cons, stabK]; exact ⟨trivial, trivial, tl_stab _ _ _ _ _ _ _ _ (by simp [boxes, Kind.boxed]) (by simp [boxes, Kind.boxed]), trivial, by simp⟩) (⟨fun i => .agg (tkC k (c : Int) (m : Int) none ps ps.length s none dt dt.length), by simp only [List.forall_mem_cons, okK]; exact ⟨trivial, trivial, ⟨none, _, none, _, rfl, Nat.le_refl _, Nat.le_refl _⟩, trivial, by simp⟩⟩) (fun β hβ => ?_)
                  obtain ⟨Pz, pz, Dz, dz, e7, _, _⟩ := (hβ 7 : TlP k c m ps s dt (β 7))
                  unfold tkC at *
                  repeat (
                    refine lex_val (v := ?_) rfl rfl (fun w' hf => ?_) ?_
                    rotate_left
                    · obtain ⟨x0, x1, x2, x3, x4, x5⟩ := six (HK6.out.2.1.next hf.only.below0); obtain ⟨a0, a1, a2, a3, a4, a5⟩ := six (HK6.out.1.next hf.only.below0); go_simp
                      try rfl
                    try simp only [Act.put, List.setIfInBounds_toArray, List.set_cons_zero, List.set_cons_succ])
                  refine lex_call (f := 11) (args := ?_) rfl rfl (fun w' hf => ?_) (fun w' hf => ?_) ?_
                  rotate_left
                  · obtain ⟨x0, x1, x2, x3, x4, x5⟩ := six (HK6.out.2.1.next hf.only.below0); obtain ⟨a0, a1, a2, a3, a4, a5⟩ := six (HK6.out.1.next hf.only.below0); go_simp
                    try rfl
                  · obtain ⟨x0, x1, x2, x3, x4, x5⟩ := six (HK6.out.2.1.next hf.only.below0); obtain ⟨a0, a1, a2, a3, a4, a5⟩ := six (HK6.out.1.next hf.only.below0); exact HTo.out Px px Dx dx w'
                  try simp only [Act.put, List.setIfInBounds_toArray, List.set_cons_zero, List.set_cons_succ]
                  repeat (
                    refine lex_val (v := ?_) rfl rfl (fun w' hf => ?_) ?_
                    rotate_left
                    · obtain ⟨x0, x1, x2, x3, x4, x5⟩ := six (HK6.out.2.1.next hf.only.below0); obtain ⟨a0, a1, a2, a3, a4, a5⟩ := six (HK6.out.1.next hf.only.below0); go_simp
                      try rfl
                    try simp only [Act.put, List.setIfInBounds_toArray, List.set_cons_zero, List.set_cons_succ])
                  refine lex_call (f := 10) (args := ?_) rfl rfl (fun w' hf => ?_) (fun w' hf => ?_) ?_
                  rotate_left
                  · obtain ⟨x0, x1, x2, x3, x4, x5⟩ := six (HK6.out.2.1.next hf.only.below0); obtain ⟨a0, a1, a2, a3, a4, a5⟩ := six (HK6.out.1.next hf.only.below0); go_simp
                    try rfl
                  · obtain ⟨x0, x1, x2, x3, x4, x5⟩ := six (HK6.out.2.1.next hf.only.below0); obtain ⟨a0, a1, a2, a3, a4, a5⟩ := six (HK6.out.1.next hf.only.below0); exact HRS.out Px px Dx dx w' (HK6.out.2.2.2.1.next hf.only.below0) (HRu.out w' hf.only.below0).1 (HK6.out.2.2.2.2.next hf.only.below0) (HRu.out w' hf.only.below0).2
                  try simp only [Act.put, List.setIfInBounds_toArray, List.set_cons_zero, List.set_cons_succ]
                  repeat (
                    refine lex_val (v := ?_) rfl rfl (fun w' hf => ?_) ?_
                    rotate_left
                    · obtain ⟨x0, x1, x2, x3, x4, x5⟩ := six (HK6.out.2.1.next hf.only.below0); obtain ⟨a0, a1, a2, a3, a4, a5⟩ := six (HK6.out.1.next hf.only.below0); go_simp
                      try rfl
                    try simp only [Act.put, List.setIfInBounds_toArray, List.set_cons_zero, List.set_cons_succ])
                  refine lex_letter (f := 6) (args := ?_) rfl rfl (fun w' hf => ?_) (fun w' hf => ?_) ?_
                  rotate_left
                  · obtain ⟨x0, x1, x2, x3, x4, x5⟩ := six (HK6.out.2.1.next hf.only.below0); obtain ⟨a0, a1, a2, a3, a4, a5⟩ := six (HK6.out.1.next hf.only.below0); go_simp
                    try rfl
                  · obtain ⟨x0, x1, x2, x3, x4, x5⟩ := six (HK6.out.2.1.next hf.only.below0); obtain ⟨a0, a1, a2, a3, a4, a5⟩ := six (HK6.out.1.next hf.only.below0); exact (HCp.out Px px Dx dx w' (HK6.out.2.2.2.1.next hf.only.below0) (HK6.out.2.2.2.2.next hf.only.below0)).mono (fun e w'' ⟨⟨P9, p9, D9, d9, h1, h2, h3, h4, h5⟩, h6⟩ => ⟨_, h1, ⟨P9, p9, D9, d9, rfl, h2, h3⟩, ⟨P9, p9, D9, d9, rfl, own_base (oints_own h4) hf.only.size, own_base (obyt_own h5) hf.only.size⟩, h6⟩)
                  try simp only [Act.put, List.setIfInBounds_toArray, List.set_cons_zero, List.set_cons_succ]
                  refine lex_call (f := 12) (args := #[.agg #[.int .i64 k, .int .u8 (c : Int), .int .u8 (m : Int), .slice Px ps.length px, .string s, .slice Dx dt.length dx], .agg #[.int .i64 k, .int .u8 (c : Int), .int .u8 (m : Int), .slice Pz ps.length pz, .string s, .slice Dz dt.length dz]]) rfl rfl (fun w' hf => ?_) (fun w' hf => ?_) ?_
                  · rw [e7]
                    go_simp
                  · have hg : TlF v5.heap.size k c m ps s dt (β 7) w' := hf.got 7 _ _ rfl (by kernel_rfl)
                    rw [e7] at hg
                    have hz := tl_same hg
                    exact HSa.out Px px Dx dx Pz pz Dz dz w' (HK6.out.2.2.2.1.next hf.only.below0) (OInts.reads hz.1) (HK6.out.2.2.2.2.next hf.only.below0) (OByt.reads hz.2)
                  try simp only [Act.put, List.setIfInBounds_toArray, List.set_cons_zero, List.set_cons_succ]
                  repeat (
                    refine lex_val (v := ?_) rfl rfl (fun w' hf => ?_) ?_
                    rotate_left
                    · go_simp
                      try rfl
                    try simp only [Act.put, List.setIfInBounds_toArray, List.set_cons_zero, List.set_cons_succ])
                  refine lex_nil fun v6 he => ?_
                  have HK7 := Lib.hid (HK6.out.next he.only.below0)
                  clear he
                  go_wp2_with fail
                  go_ret
                  exact ⟨rfl, HK7.out.2.2.1⟩
              · have hp6 := HP6b.out gp (by simp [bkA])
                clear hun
                refine wp_region_mix_lit (by kernel_rfl) [(2, .letter OneP (OneF 3 v3.heap.size (.int .i64 1))), (3, .grow gp SlgP (fun _ _ => True)), (6, .letter OneP (OneF 5 v3.heap.size (.int .u8 1))), (7, .letter SlgP (fun _ _ => True)), (9, .smear g3), (11, .smear g3)] (by kernel_rfl) (by kernel_rfl) (by kernel_rfl) (by rfl) (by simp [apartK] <;> omega) (by simp [startK] <;> omega) (by simp only [List.forall_mem_cons, stabK]; exact ⟨one_stab _ _ _ _ (by simp [boxes, Kind.boxed]), by simp, one_stab _ _ _ _ (by simp [boxes, Kind.boxed]), by simp⟩) (⟨fun i => if i = 2 then .slice (some ⟨0, 0, none⟩) 1 1 else if i = 6 then .slice (some ⟨0, 0, none⟩) 1 1 else .slice (some ⟨0, 0, none⟩) 0 0, by simp only [List.forall_mem_cons, okK]; exact ⟨⟨0, rfl⟩, ⟨0, 0, 0, rfl⟩, ⟨0, rfl⟩, ⟨0, 0, 0, rfl⟩, by simp⟩⟩) (fun β hβ => ?_)
                obtain ⟨q2, e2⟩ := (hβ 2 : OneP (β 2))
                obtain ⟨q3, n3, c3, e3⟩ := (hβ 3 : SlgP (β 3))
                obtain ⟨q6, e6⟩ := (hβ 6 : OneP (β 6))
                obtain ⟨q7, n7, c7, e7⟩ := (hβ 7 : SlgP (β 7))
                repeat (
                  refine lex_val (v := ?_) rfl rfl (fun w' hf => ?_) ?_
                  rotate_left
                  · obtain ⟨y0, y1, y2, y3, y4, y5⟩ := six ((hf.still 9 g3 rfl (unsm_of (by kernel_rfl))).trans HY3.out); go_simp
                    try rfl
                  try simp only [Act.put, List.setIfInBounds_toArray, List.set_cons_zero, List.set_cons_succ])
                refine lex_made rfl rfl (fun w' hf => ⟨.slice (some ⟨w'.heap.size, 0, none⟩) 1 1, w'.alloc (.cells #[.int .i64 1] 3), ?_, ⟨_, rfl⟩, ⟨_, rfl, hf.only.size, Blk.new _ _ _⟩, (Below.refl _ _).alloc (Nat.le_refl _) _⟩) ?_
                · go_simp
                try simp only [Act.put, List.setIfInBounds_toArray, List.set_cons_zero, List.set_cons_succ]
                refine lex_grow (b := gp) rfl rfl (fun w' hf => ?_) ?_
                · obtain ⟨qq, eq, _, hbq⟩ := (hf.got 2 _ _ rfl (by kernel_rfl) : OneF 3 v3.heap.size (.int .i64 1) (β 2) w')
                  rw [e2] at eq
                  simp only [Value.slice.injEq, Option.some.injEq, Addr.mk.injEq, and_true] at eq
                  subst eq
                  have how := own_eqs (w' := w') HP3.out (fun k hk => by obtain rfl : k = gp := (by simpa [bkA] using hk); exact hf.grew 3 k _ _ rfl (.inl rfl))
                  obtain ⟨gg, cc, w6, hrun, _, hg6, _, _⟩ := run_append_lies (P := Tryd.prog) w' 22 22 w4.heap.size 3 i0 _ 1 8 Tryd.underlying22 HI.out.1 HI.out.2.1 HI.out.2.2.1 HI.out.2.2.2 rfl (by decide) _ ps.length _ how ⟨q2, 0, none⟩ 1 1 [.int .i64 1] rfl (fun j u hj => by
                    rw [add_cellZ, hbq.cell, ← Array.getElem?_toList]; exact hj) (by simp [Value.oneCell']) (by decide) (by have := HLen.out; unfold maxLen; omega) (by have := HLen.out; omega) (by have := hf.only.size; have := HW3.out.size; omega) w'.heap.size rfl
                  exact ⟨_, w6, exec_append (.tmp 69) (.tmp 70) 22 rfl rfl e2 hrun, ⟨gg, _, cc, rfl⟩, trivial, by simpa [Value.ownBlock] using hg6⟩
                try simp only [Act.put, List.setIfInBounds_toArray, List.set_cons_zero, List.set_cons_succ]
                repeat (
                  refine lex_val (v := ?_) rfl rfl (fun w' hf => ?_) ?_
                  rotate_left
                  · obtain ⟨y0, y1, y2, y3, y4, y5⟩ := six ((hf.still 9 g3 rfl (unsm_of (by kernel_rfl))).trans HY3.out); go_simp
                    try rfl
                  try simp only [Act.put, List.setIfInBounds_toArray, List.set_cons_zero, List.set_cons_succ])
                refine lex_made rfl rfl (fun w' hf => ⟨.slice (some ⟨w'.heap.size, 0, none⟩) 1 1, w'.alloc (.cells #[.int .u8 1] 5), ?_, ⟨_, rfl⟩, ⟨_, rfl, hf.only.size, Blk.new _ _ _⟩, (Below.refl _ _).alloc (Nat.le_refl _) _⟩) ?_
                · go_simp
                try simp only [Act.put, List.setIfInBounds_toArray, List.set_cons_zero, List.set_cons_succ]
                refine lex_made rfl rfl (fun w' hf => ?_) ?_
                · obtain ⟨qq, eq, _, hbq⟩ := (hf.got 6 _ _ rfl (by kernel_rfl) : OneF 5 v3.heap.size (.int .u8 1) (β 6) w')
                  rw [e6] at eq
                  simp only [Value.slice.injEq, Option.some.injEq, Addr.mk.injEq, and_true] at eq
                  subst eq
                  have how := own_eqs (w' := w') HD3.out (fun k hk => by simp [bkA] at hk)
                  obtain ⟨gg, cc, w6, hrun, _, hg6, _, _⟩ := run_append_lies (P := Tryd.prog) w' 23 23 w4.heap.size 5 i1 _ 1 1 Tryd.underlying23 HJ.out.1 HJ.out.2.1 HJ.out.2.2.1 HJ.out.2.2.2 rfl (by decide) _ dt.length _ how ⟨q6, 0, none⟩ 1 1 [.int .u8 1] rfl (fun j u hj => by
                    rw [add_cellZ, hbq.cell, ← Array.getElem?_toList]; exact hj) (by simp [Value.oneCell']) (by decide) (by have := HLen.out; unfold maxLen; omega) (by have := HLen.out; omega) (by have := hf.only.size; have := HW3.out.size; omega) w'.heap.size rfl
                  exact ⟨_, w6, exec_append (.tmp 73) (.tmp 74) 23 rfl rfl e6 hrun, ⟨gg, _, cc, rfl⟩, trivial, ⟨hg6.os, hg6.tape, hg6.output, hg6.size, fun k hk => hg6.block k hk (by simp [Value.ownBlock])⟩⟩
                try simp only [Act.put, List.setIfInBounds_toArray, List.set_cons_zero, List.set_cons_succ]
                repeat (
                  refine lex_val (v := ?_) rfl rfl (fun w' hf => ?_) ?_
                  rotate_left
                  · go_simp
                    try rfl
                  try simp only [Act.put, List.setIfInBounds_toArray, List.set_cons_zero, List.set_cons_succ])
                refine lex_smear (b := g3) rfl rfl (fun w' hf => ?_) ?_
                · obtain ⟨cs, hcs, hbc⟩ := shp_blk HY3.out (hf.shape 9 g3 rfl)
                  have fz := hbc.frozen 3
                  obtain ⟨cv, dv⟩ : ∃ cv, w'.cell? ⟨g3, 3, none⟩ = some cv := ⟨_, (hbc.cell 3).trans (Array.getElem?_eq_getElem (by omega))⟩
                  refine ⟨w'.setCell ⟨g3, 3, none⟩ (β 3), ?_, set_grown _, shp_set hbc _⟩
                  rw [e3]
                  go_simp
                try simp only [Act.put]
                repeat (
                  refine lex_val (v := ?_) rfl rfl (fun w' hf => ?_) ?_
                  rotate_left
                  · go_simp
                    try rfl
                  try simp only [Act.put, List.setIfInBounds_toArray, List.set_cons_zero, List.set_cons_succ])
                refine lex_smear (b := g3) rfl rfl (fun w' hf => ?_) ?_
                · obtain ⟨cs, hcs, hbc⟩ := shp_blk HY3.out (hf.shape 9 g3 rfl)
                  have fz := hbc.frozen 5
                  obtain ⟨cv, dv⟩ : ∃ cv, w'.cell? ⟨g3, 5, none⟩ = some cv := ⟨_, (hbc.cell 5).trans (Array.getElem?_eq_getElem (by omega))⟩
                  refine ⟨w'.setCell ⟨g3, 5, none⟩ (β 7), ?_, set_grown _, shp_set hbc _⟩
                  rw [e7]
                  go_simp
                try simp only [Act.put]
                refine lex_nil fun v4 he => ?_
                have hon := he.only
                have HC4 := Lib.hid (own_only HC3.out hon (fun k hk h => by have := (own_bk HC3.out k hk).1; have := HG7.out; simp [stores, Kind.at_] at h; omega))
                have HW4 := Lib.hid (HW3.out.trans (hon.below HW3.out.size (fun k h => by have := HG3.out; simp [stores, Kind.at_] at h; omega)))
                clear he hon hβ
                have hk4 := HK4.out.next HW4.out
                have HK5 := Lib.hid hk4
                clear hk4
                have HRt : Hid (∀ W, Below v4.heap.size v4 W → RInts W P ps ∧ RByt W D dt) := Lib.hid (fun W h => ⟨HR.out.1.next (HK5.out.2.2.1.trans (h.mono HK5.out.2.2.1.size)), HR.out.2.next (HK5.out.2.2.1.trans (h.mono HK5.out.2.2.1.size))⟩)
                have HCr := Lib.hid (OByt.reads HC4.out)
                clear HC4
                go_upto_region 23 with fail
                by_cases hq : q = 0
                · subst hq
                  have HBe := Lib.hid (HBz.out rfl)
                  have hlb : l = bl := by rw [HL.out]; rfl
                  clear HL HBz
                  subst hlb
                  refine wp_region_mix_lit (by kernel_rfl) [(1, .call (.int .i64 0)), (7, .letter (BtP l) (BtF v4.heap.size l))] (by kernel_rfl) (by kernel_rfl) (by kernel_rfl) (by rfl) (by simp [apartK] <;> omega) (by simp [startK]) (by simp only [List.forall_mem_cons, stabK]; exact ⟨trivial, bt_stab _ _ _ (by simp [boxes, Kind.boxed]), by simp⟩) (⟨fun i => .slice none l.length 0, by simp only [List.forall_mem_cons, okK]; exact ⟨trivial, ⟨none, 0, rfl⟩, by simp⟩⟩) (fun β hβ => ?_)
                  obtain ⟨A2, n2, e7⟩ := (hβ 7 : BtP l (β 7))
                  repeat (
                    refine lex_val (v := ?_) rfl rfl (fun w' hf => ?_) ?_
                    rotate_left
                    · obtain ⟨a0, a1, a2, a3, a4, a5⟩ := six (HK5.out.1.next hf.only.below0); go_simp
                      try rfl
                    try simp only [Act.put, List.setIfInBounds_toArray, List.set_cons_zero, List.set_cons_succ])
                  refine lex_call (f := 8) (args := ?_) rfl rfl (fun w' hf => ?_) (fun w' hf => ?_) ?_
                  rotate_left
                  · obtain ⟨a0, a1, a2, a3, a4, a5⟩ := six (HK5.out.1.next hf.only.below0); go_simp
                    try rfl
                  · obtain ⟨a0, a1, a2, a3, a4, a5⟩ := six (HK5.out.1.next hf.only.below0); exact HC1.out w' (HRt.out w' hf.only.below0).1 (HRt.out w' hf.only.below0).2
                  try simp only [Act.put, List.setIfInBounds_toArray, List.set_cons_zero, List.set_cons_succ]
                  repeat (
                    refine lex_val (v := ?_) rfl rfl (fun w' hf => ?_) ?_
                    rotate_left
                    · obtain ⟨a0, a1, a2, a3, a4, a5⟩ := six (HK5.out.1.next hf.only.below0); have v1 := HCv.out l Ac nc w' (HCr.out.next hf.only.below0); go_simp
                      try rfl
                    try simp only [Act.put, List.setIfInBounds_toArray, List.set_cons_zero, List.set_cons_succ])
                  refine lex_letter (f := 9) (args := ?_) rfl rfl (fun w' hf => ?_) (fun w' hf => ?_) ?_
                  rotate_left
                  · obtain ⟨a0, a1, a2, a3, a4, a5⟩ := six (HK5.out.1.next hf.only.below0); go_simp
                    try rfl
                  · obtain ⟨a0, a1, a2, a3, a4, a5⟩ := six (HK5.out.1.next hf.only.below0); exact (HBe.out w' (HRt.out w' hf.only.below0).1 (HRt.out w' hf.only.below0).2).mono (fun e w'' ⟨v, h1, h2, h3⟩ => ⟨v, h1, h2.form, own_base (obyt_own h2) hf.only.size, h3⟩)
                  try simp only [Act.put, List.setIfInBounds_toArray, List.set_cons_zero, List.set_cons_succ]
                  refine lex_val (v := ?_) rfl rfl (fun w' hf => ?_) ?_
                  rotate_left
                  · have hg : BtF v4.heap.size l (β 7) w' := hf.got 7 _ _ rfl (by kernel_rfl); rw [e7] at hg; rw [e7]; have v2 := HCv.out l A2 n2 w' (OByt.reads hg); go_simp
                    try rfl
                  try simp only [Act.put, List.setIfInBounds_toArray, List.set_cons_zero, List.set_cons_succ]
                  repeat (
                    refine lex_val (v := ?_) rfl rfl (fun w' hf => ?_) ?_
                    rotate_left
                    · go_simp
                      try rfl
                    try simp only [Act.put, List.setIfInBounds_toArray, List.set_cons_zero, List.set_cons_succ])
                  refine lex_nil fun v5 he => ?_
                  have HK6 := Lib.hid (HK5.out.next he.only.below0)
                  clear he
                  go_wp2_with fail
                  have HRu := Lib.hid (fun W (h : Below v5.heap.size v5 W) => And.intro (HR.out.1.next (HK6.out.2.2.1.trans (h.mono HK6.out.2.2.1.size))) (HR.out.2.next (HK6.out.2.2.1.trans (h.mono HK6.out.2.2.1.size))))
                  go_upto_region 25 with fail
                  refine wp_region_mix_lit (by kernel_rfl) [(1, .call (.agg (tkC k (c : Int) (m : Int) Px ps px s Dx dt dx))), (3, .call (.bool true)), (7, .letter (TlP k c m ps s dt) (TlF v5.heap.size k c m ps s dt)), (8, .call (.bool true))] (by kernel_rfl) (by kernel_rfl) (by kernel_rfl) (by rfl) (by simp [apartK] <;> omega) (by simp [startK]) (by simp only [List.forall_mem_cons, stabK]; exact ⟨trivial, trivial, tl_stab _ _ _ _ _ _ _ _ (by simp [boxes, Kind.boxed]) (by simp [boxes, Kind.boxed]), trivial, by simp⟩) (⟨fun i => .agg (tkC k (c : Int) (m : Int) none ps ps.length s none dt dt.length), by simp only [List.forall_mem_cons, okK]; exact ⟨trivial, trivial, ⟨none, _, none, _, rfl, Nat.le_refl _, Nat.le_refl _⟩, trivial, by simp⟩⟩) (fun β hβ => ?_)
                  obtain ⟨Pz, pz, Dz, dz, e7, _, _⟩ := (hβ 7 : TlP k c m ps s dt (β 7))
                  unfold tkC at *
                  repeat (
                    refine lex_val (v := ?_) rfl rfl (fun w' hf => ?_) ?_
                    rotate_left
                    · obtain ⟨x0, x1, x2, x3, x4, x5⟩ := six (HK6.out.2.1.next hf.only.below0); obtain ⟨a0, a1, a2, a3, a4, a5⟩ := six (HK6.out.1.next hf.only.below0); go_simp
                      try rfl
                    try simp only [Act.put, List.setIfInBounds_toArray, List.set_cons_zero, List.set_cons_succ])
                  refine lex_call (f := 11) (args := ?_) rfl rfl (fun w' hf => ?_) (fun w' hf => ?_) ?_
                  rotate_left
                  · obtain ⟨x0, x1, x2, x3, x4, x5⟩ := six (HK6.out.2.1.next hf.only.below0); obtain ⟨a0, a1, a2, a3, a4, a5⟩ := six (HK6.out.1.next hf.only.below0); go_simp
                    try rfl
                  · obtain ⟨x0, x1, x2, x3, x4, x5⟩ := six (HK6.out.2.1.next hf.only.below0); obtain ⟨a0, a1, a2, a3, a4, a5⟩ := six (HK6.out.1.next hf.only.below0); exact HTo.out Px px Dx dx w'
                  try simp only [Act.put, List.setIfInBounds_toArray, List.set_cons_zero, List.set_cons_succ]
                  repeat (
                    refine lex_val (v := ?_) rfl rfl (fun w' hf => ?_) ?_
                    rotate_left
                    · obtain ⟨x0, x1, x2, x3, x4, x5⟩ := six (HK6.out.2.1.next hf.only.below0); obtain ⟨a0, a1, a2, a3, a4, a5⟩ := six (HK6.out.1.next hf.only.below0); go_simp
                      try rfl
                    try simp only [Act.put, List.setIfInBounds_toArray, List.set_cons_zero, List.set_cons_succ])
                  refine lex_call (f := 10) (args := ?_) rfl rfl (fun w' hf => ?_) (fun w' hf => ?_) ?_
                  rotate_left
                  · obtain ⟨x0, x1, x2, x3, x4, x5⟩ := six (HK6.out.2.1.next hf.only.below0); obtain ⟨a0, a1, a2, a3, a4, a5⟩ := six (HK6.out.1.next hf.only.below0); go_simp
                    try rfl
                  · obtain ⟨x0, x1, x2, x3, x4, x5⟩ := six (HK6.out.2.1.next hf.only.below0); obtain ⟨a0, a1, a2, a3, a4, a5⟩ := six (HK6.out.1.next hf.only.below0); exact HRS.out Px px Dx dx w' (HK6.out.2.2.2.1.next hf.only.below0) (HRu.out w' hf.only.below0).1 (HK6.out.2.2.2.2.next hf.only.below0) (HRu.out w' hf.only.below0).2
                  try simp only [Act.put, List.setIfInBounds_toArray, List.set_cons_zero, List.set_cons_succ]
                  repeat (
                    refine lex_val (v := ?_) rfl rfl (fun w' hf => ?_) ?_
                    rotate_left
                    · obtain ⟨x0, x1, x2, x3, x4, x5⟩ := six (HK6.out.2.1.next hf.only.below0); obtain ⟨a0, a1, a2, a3, a4, a5⟩ := six (HK6.out.1.next hf.only.below0); go_simp
                      try rfl
                    try simp only [Act.put, List.setIfInBounds_toArray, List.set_cons_zero, List.set_cons_succ])
                  refine lex_letter (f := 6) (args := ?_) rfl rfl (fun w' hf => ?_) (fun w' hf => ?_) ?_
                  rotate_left
                  · obtain ⟨x0, x1, x2, x3, x4, x5⟩ := six (HK6.out.2.1.next hf.only.below0); obtain ⟨a0, a1, a2, a3, a4, a5⟩ := six (HK6.out.1.next hf.only.below0); go_simp
                    try rfl
                  · obtain ⟨x0, x1, x2, x3, x4, x5⟩ := six (HK6.out.2.1.next hf.only.below0); obtain ⟨a0, a1, a2, a3, a4, a5⟩ := six (HK6.out.1.next hf.only.below0); exact (HCp.out Px px Dx dx w' (HK6.out.2.2.2.1.next hf.only.below0) (HK6.out.2.2.2.2.next hf.only.below0)).mono (fun e w'' ⟨⟨P9, p9, D9, d9, h1, h2, h3, h4, h5⟩, h6⟩ => ⟨_, h1, ⟨P9, p9, D9, d9, rfl, h2, h3⟩, ⟨P9, p9, D9, d9, rfl, own_base (oints_own h4) hf.only.size, own_base (obyt_own h5) hf.only.size⟩, h6⟩)
                  try simp only [Act.put, List.setIfInBounds_toArray, List.set_cons_zero, List.set_cons_succ]
                  refine lex_call (f := 12) (args := #[.agg #[.int .i64 k, .int .u8 (c : Int), .int .u8 (m : Int), .slice Px ps.length px, .string s, .slice Dx dt.length dx], .agg #[.int .i64 k, .int .u8 (c : Int), .int .u8 (m : Int), .slice Pz ps.length pz, .string s, .slice Dz dt.length dz]]) rfl rfl (fun w' hf => ?_) (fun w' hf => ?_) ?_
                  · rw [e7]
                    go_simp
                  · have hg : TlF v5.heap.size k c m ps s dt (β 7) w' := hf.got 7 _ _ rfl (by kernel_rfl)
                    rw [e7] at hg
                    have hz := tl_same hg
                    exact HSa.out Px px Dx dx Pz pz Dz dz w' (HK6.out.2.2.2.1.next hf.only.below0) (OInts.reads hz.1) (HK6.out.2.2.2.2.next hf.only.below0) (OByt.reads hz.2)
                  try simp only [Act.put, List.setIfInBounds_toArray, List.set_cons_zero, List.set_cons_succ]
                  repeat (
                    refine lex_val (v := ?_) rfl rfl (fun w' hf => ?_) ?_
                    rotate_left
                    · go_simp
                      try rfl
                    try simp only [Act.put, List.setIfInBounds_toArray, List.set_cons_zero, List.set_cons_succ])
                  refine lex_nil fun v6 he => ?_
                  have HK7 := Lib.hid (HK6.out.next he.only.below0)
                  clear he
                  go_wp2_with fail
                  go_ret
                  exact ⟨rfl, HK7.out.2.2.1⟩
                · have hq2 : (q == 0) = false := by simpa using hq
                  clear HBz HL hq
                  refine wp_region_mix_lit (by kernel_rfl) [(1, .call (.int .i64 q))] (by kernel_rfl) (by kernel_rfl) (by kernel_rfl) (by rfl) (by simp [apartK] <;> omega) (by simp [startK]) (by simp [stabK]) (⟨fun _ => undef, by simp [okK]⟩) (fun β hβ => ?_)
                  repeat (
                    refine lex_val (v := ?_) rfl rfl (fun w' hf => ?_) ?_
                    rotate_left
                    · obtain ⟨a0, a1, a2, a3, a4, a5⟩ := six (HK5.out.1.next hf.only.below0); go_simp
                      try rfl
                    try simp only [Act.put, List.setIfInBounds_toArray, List.set_cons_zero, List.set_cons_succ])
                  refine lex_call (f := 8) (args := ?_) rfl rfl (fun w' hf => ?_) (fun w' hf => ?_) ?_
                  rotate_left
                  · obtain ⟨a0, a1, a2, a3, a4, a5⟩ := six (HK5.out.1.next hf.only.below0); go_simp
                    try rfl
                  · obtain ⟨a0, a1, a2, a3, a4, a5⟩ := six (HK5.out.1.next hf.only.below0); exact HC1.out w' (HRt.out w' hf.only.below0).1 (HRt.out w' hf.only.below0).2
                  try simp only [Act.put, List.setIfInBounds_toArray, List.set_cons_zero, List.set_cons_succ]
                  repeat (
                    refine lex_val (v := ?_) rfl rfl (fun w' hf => ?_) ?_
                    rotate_left
                    · go_simp
                      try rfl
                    try simp only [Act.put, List.setIfInBounds_toArray, List.set_cons_zero, List.set_cons_succ])
                  repeat (
                    refine lex_skip rfl rfl ?_
                    try simp only [Act.put, List.setIfInBounds_toArray, List.set_cons_zero, List.set_cons_succ])
                  repeat (
                    refine lex_val (v := ?_) rfl rfl (fun w' hf => ?_) ?_
                    rotate_left
                    · go_simp
                      try rfl
                    try simp only [Act.put, List.setIfInBounds_toArray, List.set_cons_zero, List.set_cons_succ])
                  refine lex_nil fun v5 he => ?_
                  have HK6 := Lib.hid (HK5.out.next he.only.below0)
                  clear he
                  go_wp2_with fail
                  have HRu := Lib.hid (fun W (h : Below v5.heap.size v5 W) => And.intro (HR.out.1.next (HK6.out.2.2.1.trans (h.mono HK6.out.2.2.1.size))) (HR.out.2.next (HK6.out.2.2.1.trans (h.mono HK6.out.2.2.1.size))))
                  go_upto_region 25 with fail
                  refine wp_region_mix_lit (by kernel_rfl) [(1, .call (.agg (tkC k (c : Int) (m : Int) Px ps px s Dx dt dx))), (3, .call (.bool true)), (7, .letter (TlP k c m ps s dt) (TlF v5.heap.size k c m ps s dt)), (8, .call (.bool true))] (by kernel_rfl) (by kernel_rfl) (by kernel_rfl) (by rfl) (by simp [apartK] <;> omega) (by simp [startK]) (by simp only [List.forall_mem_cons, stabK]; exact ⟨trivial, trivial, tl_stab _ _ _ _ _ _ _ _ (by simp [boxes, Kind.boxed]) (by simp [boxes, Kind.boxed]), trivial, by simp⟩) (⟨fun i => .agg (tkC k (c : Int) (m : Int) none ps ps.length s none dt dt.length), by simp only [List.forall_mem_cons, okK]; exact ⟨trivial, trivial, ⟨none, _, none, _, rfl, Nat.le_refl _, Nat.le_refl _⟩, trivial, by simp⟩⟩) (fun β hβ => ?_)
                  obtain ⟨Pz, pz, Dz, dz, e7, _, _⟩ := (hβ 7 : TlP k c m ps s dt (β 7))
                  unfold tkC at *
                  repeat (
                    refine lex_val (v := ?_) rfl rfl (fun w' hf => ?_) ?_
                    rotate_left
                    · obtain ⟨x0, x1, x2, x3, x4, x5⟩ := six (HK6.out.2.1.next hf.only.below0); obtain ⟨a0, a1, a2, a3, a4, a5⟩ := six (HK6.out.1.next hf.only.below0); go_simp
                      try rfl
                    try simp only [Act.put, List.setIfInBounds_toArray, List.set_cons_zero, List.set_cons_succ])
                  refine lex_call (f := 11) (args := ?_) rfl rfl (fun w' hf => ?_) (fun w' hf => ?_) ?_
                  rotate_left
                  · obtain ⟨x0, x1, x2, x3, x4, x5⟩ := six (HK6.out.2.1.next hf.only.below0); obtain ⟨a0, a1, a2, a3, a4, a5⟩ := six (HK6.out.1.next hf.only.below0); go_simp
                    try rfl
                  · obtain ⟨x0, x1, x2, x3, x4, x5⟩ := six (HK6.out.2.1.next hf.only.below0); obtain ⟨a0, a1, a2, a3, a4, a5⟩ := six (HK6.out.1.next hf.only.below0); exact HTo.out Px px Dx dx w'
                  try simp only [Act.put, List.setIfInBounds_toArray, List.set_cons_zero, List.set_cons_succ]
                  repeat (
                    refine lex_val (v := ?_) rfl rfl (fun w' hf => ?_) ?_
                    rotate_left
                    · obtain ⟨x0, x1, x2, x3, x4, x5⟩ := six (HK6.out.2.1.next hf.only.below0); obtain ⟨a0, a1, a2, a3, a4, a5⟩ := six (HK6.out.1.next hf.only.below0); go_simp
                      try rfl
                    try simp only [Act.put, List.setIfInBounds_toArray, List.set_cons_zero, List.set_cons_succ])
                  refine lex_call (f := 10) (args := ?_) rfl rfl (fun w' hf => ?_) (fun w' hf => ?_) ?_
                  rotate_left
                  · obtain ⟨x0, x1, x2, x3, x4, x5⟩ := six (HK6.out.2.1.next hf.only.below0); obtain ⟨a0, a1, a2, a3, a4, a5⟩ := six (HK6.out.1.next hf.only.below0); go_simp
                    try rfl
                  · obtain ⟨x0, x1, x2, x3, x4, x5⟩ := six (HK6.out.2.1.next hf.only.below0); obtain ⟨a0, a1, a2, a3, a4, a5⟩ := six (HK6.out.1.next hf.only.below0); exact HRS.out Px px Dx dx w' (HK6.out.2.2.2.1.next hf.only.below0) (HRu.out w' hf.only.below0).1 (HK6.out.2.2.2.2.next hf.only.below0) (HRu.out w' hf.only.below0).2
                  try simp only [Act.put, List.setIfInBounds_toArray, List.set_cons_zero, List.set_cons_succ]
                  repeat (
                    refine lex_val (v := ?_) rfl rfl (fun w' hf => ?_) ?_
                    rotate_left
                    · obtain ⟨x0, x1, x2, x3, x4, x5⟩ := six (HK6.out.2.1.next hf.only.below0); obtain ⟨a0, a1, a2, a3, a4, a5⟩ := six (HK6.out.1.next hf.only.below0); go_simp
                      try rfl
                    try simp only [Act.put, List.setIfInBounds_toArray, List.set_cons_zero, List.set_cons_succ])
                  refine lex_letter (f := 6) (args := ?_) rfl rfl (fun w' hf => ?_) (fun w' hf => ?_) ?_
                  rotate_left
                  · obtain ⟨x0, x1, x2, x3, x4, x5⟩ := six (HK6.out.2.1.next hf.only.below0); obtain ⟨a0, a1, a2, a3, a4, a5⟩ := six (HK6.out.1.next hf.only.below0); go_simp
                    try rfl
                  · obtain ⟨x0, x1, x2, x3, x4, x5⟩ := six (HK6.out.2.1.next hf.only.below0); obtain ⟨a0, a1, a2, a3, a4, a5⟩ := six (HK6.out.1.next hf.only.below0); exact (HCp.out Px px Dx dx w' (HK6.out.2.2.2.1.next hf.only.below0) (HK6.out.2.2.2.2.next hf.only.below0)).mono (fun e w'' ⟨⟨P9, p9, D9, d9, h1, h2, h3, h4, h5⟩, h6⟩ => ⟨_, h1, ⟨P9, p9, D9, d9, rfl, h2, h3⟩, ⟨P9, p9, D9, d9, rfl, own_base (oints_own h4) hf.only.size, own_base (obyt_own h5) hf.only.size⟩, h6⟩)
                  try simp only [Act.put, List.setIfInBounds_toArray, List.set_cons_zero, List.set_cons_succ]
                  refine lex_call (f := 12) (args := #[.agg #[.int .i64 k, .int .u8 (c : Int), .int .u8 (m : Int), .slice Px ps.length px, .string s, .slice Dx dt.length dx], .agg #[.int .i64 k, .int .u8 (c : Int), .int .u8 (m : Int), .slice Pz ps.length pz, .string s, .slice Dz dt.length dz]]) rfl rfl (fun w' hf => ?_) (fun w' hf => ?_) ?_
                  · rw [e7]
                    go_simp
                  · have hg : TlF v5.heap.size k c m ps s dt (β 7) w' := hf.got 7 _ _ rfl (by kernel_rfl)
                    rw [e7] at hg
                    have hz := tl_same hg
                    exact HSa.out Px px Dx dx Pz pz Dz dz w' (HK6.out.2.2.2.1.next hf.only.below0) (OInts.reads hz.1) (HK6.out.2.2.2.2.next hf.only.below0) (OByt.reads hz.2)
                  try simp only [Act.put, List.setIfInBounds_toArray, List.set_cons_zero, List.set_cons_succ]
                  repeat (
                    refine lex_val (v := ?_) rfl rfl (fun w' hf => ?_) ?_
                    rotate_left
                    · go_simp
                      try rfl
                    try simp only [Act.put, List.setIfInBounds_toArray, List.set_cons_zero, List.set_cons_succ])
                  refine lex_nil fun v6 he => ?_
                  have HK7 := Lib.hid (HK6.out.next he.only.below0)
                  clear he
                  go_wp2_with fail
                  go_ret
                  exact ⟨rfl, HK7.out.2.2.1⟩
              · have hp6 := HP6b.out gp (by simp [bkA])
                have hd6 := HD6b.out gd (by simp [bkA])
                have hpd : gp ≠ gd := fun e => hun gp (by simp [bkA]) (by rw [e]; simp [bkA])
                clear hun
                refine wp_region_mix_lit (by kernel_rfl) [(2, .letter OneP (OneF 3 v3.heap.size (.int .i64 1))), (3, .grow gp SlgP (fun _ _ => True)), (6, .letter OneP (OneF 5 v3.heap.size (.int .u8 1))), (7, .grow gd SlgP (fun _ _ => True)), (9, .smear g3), (11, .smear g3)] (by kernel_rfl) (by kernel_rfl) (by kernel_rfl) (by rfl) (by simp [apartK] <;> omega) (by simp [startK] <;> omega) (by simp only [List.forall_mem_cons, stabK]; exact ⟨one_stab _ _ _ _ (by simp [boxes, Kind.boxed]), by simp, one_stab _ _ _ _ (by simp [boxes, Kind.boxed]), by simp⟩) (⟨fun i => if i = 2 then .slice (some ⟨0, 0, none⟩) 1 1 else if i = 6 then .slice (some ⟨0, 0, none⟩) 1 1 else .slice (some ⟨0, 0, none⟩) 0 0, by simp only [List.forall_mem_cons, okK]; exact ⟨⟨0, rfl⟩, ⟨0, 0, 0, rfl⟩, ⟨0, rfl⟩, ⟨0, 0, 0, rfl⟩, by simp⟩⟩) (fun β hβ => ?_)
                obtain ⟨q2, e2⟩ := (hβ 2 : OneP (β 2))
                obtain ⟨q3, n3, c3, e3⟩ := (hβ 3 : SlgP (β 3))
                obtain ⟨q6, e6⟩ := (hβ 6 : OneP (β 6))
                obtain ⟨q7, n7, c7, e7⟩ := (hβ 7 : SlgP (β 7))
                repeat (
                  refine lex_val (v := ?_) rfl rfl (fun w' hf => ?_) ?_
                  rotate_left
                  · obtain ⟨y0, y1, y2, y3, y4, y5⟩ := six ((hf.still 9 g3 rfl (unsm_of (by kernel_rfl))).trans HY3.out); go_simp
                    try rfl
                  try simp only [Act.put, List.setIfInBounds_toArray, List.set_cons_zero, List.set_cons_succ])
                refine lex_made rfl rfl (fun w' hf => ⟨.slice (some ⟨w'.heap.size, 0, none⟩) 1 1, w'.alloc (.cells #[.int .i64 1] 3), ?_, ⟨_, rfl⟩, ⟨_, rfl, hf.only.size, Blk.new _ _ _⟩, (Below.refl _ _).alloc (Nat.le_refl _) _⟩) ?_
                · go_simp
                try simp only [Act.put, List.setIfInBounds_toArray, List.set_cons_zero, List.set_cons_succ]
                refine lex_grow (b := gp) rfl rfl (fun w' hf => ?_) ?_
                · obtain ⟨qq, eq, _, hbq⟩ := (hf.got 2 _ _ rfl (by kernel_rfl) : OneF 3 v3.heap.size (.int .i64 1) (β 2) w')
                  rw [e2] at eq
                  simp only [Value.slice.injEq, Option.some.injEq, Addr.mk.injEq, and_true] at eq
                  subst eq
                  have how := own_eqs (w' := w') HP3.out (fun k hk => by obtain rfl : k = gp := (by simpa [bkA] using hk); exact hf.grew 3 k _ _ rfl (.inl rfl))
                  obtain ⟨gg, cc, w6, hrun, _, hg6, _, _⟩ := run_append_lies (P := Tryd.prog) w' 22 22 w4.heap.size 3 i0 _ 1 8 Tryd.underlying22 HI.out.1 HI.out.2.1 HI.out.2.2.1 HI.out.2.2.2 rfl (by decide) _ ps.length _ how ⟨q2, 0, none⟩ 1 1 [.int .i64 1] rfl (fun j u hj => by
                    rw [add_cellZ, hbq.cell, ← Array.getElem?_toList]; exact hj) (by simp [Value.oneCell']) (by decide) (by have := HLen.out; unfold maxLen; omega) (by have := HLen.out; omega) (by have := hf.only.size; have := HW3.out.size; omega) w'.heap.size rfl
                  exact ⟨_, w6, exec_append (.tmp 69) (.tmp 70) 22 rfl rfl e2 hrun, ⟨gg, _, cc, rfl⟩, trivial, by simpa [Value.ownBlock] using hg6⟩
                try simp only [Act.put, List.setIfInBounds_toArray, List.set_cons_zero, List.set_cons_succ]
                repeat (
                  refine lex_val (v := ?_) rfl rfl (fun w' hf => ?_) ?_
                  rotate_left
                  · obtain ⟨y0, y1, y2, y3, y4, y5⟩ := six ((hf.still 9 g3 rfl (unsm_of (by kernel_rfl))).trans HY3.out); go_simp
                    try rfl
                  try simp only [Act.put, List.setIfInBounds_toArray, List.set_cons_zero, List.set_cons_succ])
                refine lex_made rfl rfl (fun w' hf => ⟨.slice (some ⟨w'.heap.size, 0, none⟩) 1 1, w'.alloc (.cells #[.int .u8 1] 5), ?_, ⟨_, rfl⟩, ⟨_, rfl, hf.only.size, Blk.new _ _ _⟩, (Below.refl _ _).alloc (Nat.le_refl _) _⟩) ?_
                · go_simp
                try simp only [Act.put, List.setIfInBounds_toArray, List.set_cons_zero, List.set_cons_succ]
                refine lex_grow (b := gd) rfl rfl (fun w' hf => ?_) ?_
                · obtain ⟨qq, eq, _, hbq⟩ := (hf.got 6 _ _ rfl (by kernel_rfl) : OneF 5 v3.heap.size (.int .u8 1) (β 6) w')
                  rw [e6] at eq
                  simp only [Value.slice.injEq, Option.some.injEq, Addr.mk.injEq, and_true] at eq
                  subst eq
                  have how := own_eqs (w' := w') HD3.out (fun k hk => by obtain rfl : k = gd := (by simpa [bkA] using hk); exact hf.grew 7 k _ _ rfl (.inl rfl))
                  obtain ⟨gg, cc, w6, hrun, _, hg6, _, _⟩ := run_append_lies (P := Tryd.prog) w' 23 23 w4.heap.size 5 i1 _ 1 1 Tryd.underlying23 HJ.out.1 HJ.out.2.1 HJ.out.2.2.1 HJ.out.2.2.2 rfl (by decide) _ dt.length _ how ⟨q6, 0, none⟩ 1 1 [.int .u8 1] rfl (fun j u hj => by
                    rw [add_cellZ, hbq.cell, ← Array.getElem?_toList]; exact hj) (by simp [Value.oneCell']) (by decide) (by have := HLen.out; unfold maxLen; omega) (by have := HLen.out; omega) (by have := hf.only.size; have := HW3.out.size; omega) w'.heap.size rfl
                  exact ⟨_, w6, exec_append (.tmp 73) (.tmp 74) 23 rfl rfl e6 hrun, ⟨gg, _, cc, rfl⟩, trivial, by simpa [Value.ownBlock] using hg6⟩
                try simp only [Act.put, List.setIfInBounds_toArray, List.set_cons_zero, List.set_cons_succ]
                repeat (
                  refine lex_val (v := ?_) rfl rfl (fun w' hf => ?_) ?_
                  rotate_left
                  · go_simp
                    try rfl
                  try simp only [Act.put, List.setIfInBounds_toArray, List.set_cons_zero, List.set_cons_succ])
                refine lex_smear (b := g3) rfl rfl (fun w' hf => ?_) ?_
                · obtain ⟨cs, hcs, hbc⟩ := shp_blk HY3.out (hf.shape 9 g3 rfl)
                  have fz := hbc.frozen 3
                  obtain ⟨cv, dv⟩ : ∃ cv, w'.cell? ⟨g3, 3, none⟩ = some cv := ⟨_, (hbc.cell 3).trans (Array.getElem?_eq_getElem (by omega))⟩
                  refine ⟨w'.setCell ⟨g3, 3, none⟩ (β 3), ?_, set_grown _, shp_set hbc _⟩
                  rw [e3]
                  go_simp
                try simp only [Act.put]
                repeat (
                  refine lex_val (v := ?_) rfl rfl (fun w' hf => ?_) ?_
                  rotate_left
                  · go_simp
                    try rfl
                  try simp only [Act.put, List.setIfInBounds_toArray, List.set_cons_zero, List.set_cons_succ])
                refine lex_smear (b := g3) rfl rfl (fun w' hf => ?_) ?_
                · obtain ⟨cs, hcs, hbc⟩ := shp_blk HY3.out (hf.shape 9 g3 rfl)
                  have fz := hbc.frozen 5
                  obtain ⟨cv, dv⟩ : ∃ cv, w'.cell? ⟨g3, 5, none⟩ = some cv := ⟨_, (hbc.cell 5).trans (Array.getElem?_eq_getElem (by omega))⟩
                  refine ⟨w'.setCell ⟨g3, 5, none⟩ (β 7), ?_, set_grown _, shp_set hbc _⟩
                  rw [e7]
                  go_simp
                try simp only [Act.put]
                refine lex_nil fun v4 he => ?_
                have hon := he.only
                have HC4 := Lib.hid (own_only HC3.out hon (fun k hk h => by have := (own_bk HC3.out k hk).1; have := HG7.out; simp [stores, Kind.at_] at h; omega))
                have HW4 := Lib.hid (HW3.out.trans (hon.below HW3.out.size (fun k h => by have := HG3.out; simp [stores, Kind.at_] at h; omega)))
                clear he hon hβ
                have hk4 := HK4.out.next HW4.out
                have HK5 := Lib.hid hk4
                clear hk4
                have HRt : Hid (∀ W, Below v4.heap.size v4 W → RInts W P ps ∧ RByt W D dt) := Lib.hid (fun W h => ⟨HR.out.1.next (HK5.out.2.2.1.trans (h.mono HK5.out.2.2.1.size)), HR.out.2.next (HK5.out.2.2.1.trans (h.mono HK5.out.2.2.1.size))⟩)
                have HCr := Lib.hid (OByt.reads HC4.out)
                clear HC4
                go_upto_region 23 with fail
                by_cases hq : q = 0
                · subst hq
                  have HBe := Lib.hid (HBz.out rfl)
                  have hlb : l = bl := by rw [HL.out]; rfl
                  clear HL HBz
                  subst hlb
                  refine wp_region_mix_lit (by kernel_rfl) [(1, .call (.int .i64 0)), (7, .letter (BtP l) (BtF v4.heap.size l))] (by kernel_rfl) (by kernel_rfl) (by kernel_rfl) (by rfl) (by simp [apartK] <;> omega) (by simp [startK]) (by simp only [List.forall_mem_cons, stabK]; exact ⟨trivial, bt_stab _ _ _ (by simp [boxes, Kind.boxed]), by simp⟩) (⟨fun i => .slice none l.length 0, by simp only [List.forall_mem_cons, okK]; exact ⟨trivial, ⟨none, 0, rfl⟩, by simp⟩⟩) (fun β hβ => ?_)
                  obtain ⟨A2, n2, e7⟩ := (hβ 7 : BtP l (β 7))
                  repeat (
                    refine lex_val (v := ?_) rfl rfl (fun w' hf => ?_) ?_
                    rotate_left
                    · obtain ⟨a0, a1, a2, a3, a4, a5⟩ := six (HK5.out.1.next hf.only.below0); go_simp
                      try rfl
                    try simp only [Act.put, List.setIfInBounds_toArray, List.set_cons_zero, List.set_cons_succ])
                  refine lex_call (f := 8) (args := ?_) rfl rfl (fun w' hf => ?_) (fun w' hf => ?_) ?_
                  rotate_left
                  · obtain ⟨a0, a1, a2, a3, a4, a5⟩ := six (HK5.out.1.next hf.only.below0); go_simp
                    try rfl
                  · obtain ⟨a0, a1, a2, a3, a4, a5⟩ := six (HK5.out.1.next hf.only.below0); exact HC1.out w' (HRt.out w' hf.only.below0).1 (HRt.out w' hf.only.below0).2
                  try simp only [Act.put, List.setIfInBounds_toArray, List.set_cons_zero, List.set_cons_succ]
                  repeat (
                    refine lex_val (v := ?_) rfl rfl (fun w' hf => ?_) ?_
                    rotate_left
                    · obtain ⟨a0, a1, a2, a3, a4, a5⟩ := six (HK5.out.1.next hf.only.below0); have v1 := HCv.out l Ac nc w' (HCr.out.next hf.only.below0); go_simp
                      try rfl
                    try simp only [Act.put, List.setIfInBounds_toArray, List.set_cons_zero, List.set_cons_succ])
                  refine lex_letter (f := 9) (args := ?_) rfl rfl (fun w' hf => ?_) (fun w' hf => ?_) ?_
                  rotate_left
                  · obtain ⟨a0, a1, a2, a3, a4, a5⟩ := six (HK5.out.1.next hf.only.below0); go_simp
                    try rfl
                  · obtain ⟨a0, a1, a2, a3, a4, a5⟩ := six (HK5.out.1.next hf.only.below0); exact (HBe.out w' (HRt.out w' hf.only.below0).1 (HRt.out w' hf.only.below0).2).mono (fun e w'' ⟨v, h1, h2, h3⟩ => ⟨v, h1, h2.form, own_base (obyt_own h2) hf.only.size, h3⟩)
                  try simp only [Act.put, List.setIfInBounds_toArray, List.set_cons_zero, List.set_cons_succ]
                  refine lex_val (v := ?_) rfl rfl (fun w' hf => ?_) ?_
                  rotate_left
                  · have hg : BtF v4.heap.size l (β 7) w' := hf.got 7 _ _ rfl (by kernel_rfl); rw [e7] at hg; rw [e7]; have v2 := HCv.out l A2 n2 w' (OByt.reads hg); go_simp
                    try rfl
                  try simp only [Act.put, List.setIfInBounds_toArray, List.set_cons_zero, List.set_cons_succ]
                  repeat (
                    refine lex_val (v := ?_) rfl rfl (fun w' hf => ?_) ?_
                    rotate_left
                    · go_simp
                      try rfl
                    try simp only [Act.put, List.setIfInBounds_toArray, List.set_cons_zero, List.set_cons_succ])
                  refine lex_nil fun v5 he => ?_
                  have HK6 := Lib.hid (HK5.out.next he.only.below0)
                  clear he
                  go_wp2_with fail
                  have HRu := Lib.hid (fun W (h : Below v5.heap.size v5 W) => And.intro (HR.out.1.next (HK6.out.2.2.1.trans (h.mono HK6.out.2.2.1.size))) (HR.out.2.next (HK6.out.2.2.1.trans (h.mono HK6.out.2.2.1.size))))
                  go_upto_region 25 with fail
                  refine wp_region_mix_lit (by kernel_rfl) [(1, .call (.agg (tkC k (c : Int) (m : Int) Px ps px s Dx dt dx))), (3, .call (.bool true)), (7, .letter (TlP k c m ps s dt) (TlF v5.heap.size k c m ps s dt)), (8, .call (.bool true))] (by kernel_rfl) (by kernel_rfl) (by kernel_rfl) (by rfl) (by simp [apartK] <;> omega) (by simp [startK]) (by simp only [List.forall_mem_cons, stabK]; exact ⟨trivial, trivial, tl_stab _ _ _ _ _ _ _ _ (by simp [boxes, Kind.boxed]) (by simp [boxes, Kind.boxed]), trivial, by simp⟩) (⟨fun i => .agg (tkC k (c : Int) (m : Int) none ps ps.length s none dt dt.length), by simp only [List.forall_mem_cons, okK]; exact ⟨trivial, trivial, ⟨none, _, none, _, rfl, Nat.le_refl _, Nat.le_refl _⟩, trivial, by simp⟩⟩) (fun β hβ => ?_)
                  obtain ⟨Pz, pz, Dz, dz, e7, _, _⟩ := (hβ 7 : TlP k c m ps s dt (β 7))
                  unfold tkC at *
                  repeat (
                    refine lex_val (v := ?_) rfl rfl (fun w' hf => ?_) ?_
                    rotate_left
                    · obtain ⟨x0, x1, x2, x3, x4, x5⟩ := six (HK6.out.2.1.next hf.only.below0); obtain ⟨a0, a1, a2, a3, a4, a5⟩ := six (HK6.out.1.next hf.only.below0); go_simp
                      try rfl
                    try simp only [Act.put, List.setIfInBounds_toArray, List.set_cons_zero, List.set_cons_succ])
                  refine lex_call (f := 11) (args := ?_) rfl rfl (fun w' hf => ?_) (fun w' hf => ?_) ?_
                  rotate_left
                  · obtain ⟨x0, x1, x2, x3, x4, x5⟩ := six (HK6.out.2.1.next hf.only.below0); obtain ⟨a0, a1, a2, a3, a4, a5⟩ := six (HK6.out.1.next hf.only.below0); go_simp
                    try rfl
                  · obtain ⟨x0, x1, x2, x3, x4, x5⟩ := six (HK6.out.2.1.next hf.only.below0); obtain ⟨a0, a1, a2, a3, a4, a5⟩ := six (HK6.out.1.next hf.only.below0); exact HTo.out Px px Dx dx w'
                  try simp only [Act.put, List.setIfInBounds_toArray, List.set_cons_zero, List.set_cons_succ]
                  repeat (
                    refine lex_val (v := ?_) rfl rfl (fun w' hf => ?_) ?_
                    rotate_left
                    · obtain ⟨x0, x1, x2, x3, x4, x5⟩ := six (HK6.out.2.1.next hf.only.below0); obtain ⟨a0, a1, a2, a3, a4, a5⟩ := six (HK6.out.1.next hf.only.below0); go_simp
                      try rfl
                    try simp only [Act.put, List.setIfInBounds_toArray, List.set_cons_zero, List.set_cons_succ])
                  refine lex_call (f := 10) (args := ?_) rfl rfl (fun w' hf => ?_) (fun w' hf => ?_) ?_
                  rotate_left
                  · obtain ⟨x0, x1, x2, x3, x4, x5⟩ := six (HK6.out.2.1.next hf.only.below0); obtain ⟨a0, a1, a2, a3, a4, a5⟩ := six (HK6.out.1.next hf.only.below0); go_simp
                    try rfl
                  · obtain ⟨x0, x1, x2, x3, x4, x5⟩ := six (HK6.out.2.1.next hf.only.below0); obtain ⟨a0, a1, a2, a3, a4, a5⟩ := six (HK6.out.1.next hf.only.below0); exact HRS.out Px px Dx dx w' (HK6.out.2.2.2.1.next hf.only.below0) (HRu.out w' hf.only.below0).1 (HK6.out.2.2.2.2.next hf.only.below0) (HRu.out w' hf.only.below0).2
                  try simp only [Act.put, List.setIfInBounds_toArray, List.set_cons_zero, List.set_cons_succ]
                  repeat (
                    refine lex_val (v := ?_) rfl rfl (fun w' hf => ?_) ?_
                    rotate_left
                    · obtain ⟨x0, x1, x2, x3, x4, x5⟩ := six (HK6.out.2.1.next hf.only.below0); obtain ⟨a0, a1, a2, a3, a4, a5⟩ := six (HK6.out.1.next hf.only.below0); go_simp
                      try rfl
                    try simp only [Act.put, List.setIfInBounds_toArray, List.set_cons_zero, List.set_cons_succ])
                  refine lex_letter (f := 6) (args := ?_) rfl rfl (fun w' hf => ?_) (fun w' hf => ?_) ?_
                  rotate_left
                  · obtain ⟨x0, x1, x2, x3, x4, x5⟩ := six (HK6.out.2.1.next hf.only.below0); obtain ⟨a0, a1, a2, a3, a4, a5⟩ := six (HK6.out.1.next hf.only.below0); go_simp
                    try rfl
                  · obtain ⟨x0, x1, x2, x3, x4, x5⟩ := six (HK6.out.2.1.next hf.only.below0); obtain ⟨a0, a1, a2, a3, a4, a5⟩ := six (HK6.out.1.next hf.only.below0); exact (HCp.out Px px Dx dx w' (HK6.out.2.2.2.1.next hf.only.below0) (HK6.out.2.2.2.2.next hf.only.below0)).mono (fun e w'' ⟨⟨P9, p9, D9, d9, h1, h2, h3, h4, h5⟩, h6⟩ => ⟨_, h1, ⟨P9, p9, D9, d9, rfl, h2, h3⟩, ⟨P9, p9, D9, d9, rfl, own_base (oints_own h4) hf.only.size, own_base (obyt_own h5) hf.only.size⟩, h6⟩)
                  try simp only [Act.put, List.setIfInBounds_toArray, List.set_cons_zero, List.set_cons_succ]
                  refine lex_call (f := 12) (args := #[.agg #[.int .i64 k, .int .u8 (c : Int), .int .u8 (m : Int), .slice Px ps.length px, .string s, .slice Dx dt.length dx], .agg #[.int .i64 k, .int .u8 (c : Int), .int .u8 (m : Int), .slice Pz ps.length pz, .string s, .slice Dz dt.length dz]]) rfl rfl (fun w' hf => ?_) (fun w' hf => ?_) ?_
                  · rw [e7]
                    go_simp
                  · have hg : TlF v5.heap.size k c m ps s dt (β 7) w' := hf.got 7 _ _ rfl (by kernel_rfl)
                    rw [e7] at hg
                    have hz := tl_same hg
                    exact HSa.out Px px Dx dx Pz pz Dz dz w' (HK6.out.2.2.2.1.next hf.only.below0) (OInts.reads hz.1) (HK6.out.2.2.2.2.next hf.only.below0) (OByt.reads hz.2)
                  try simp only [Act.put, List.setIfInBounds_toArray, List.set_cons_zero, List.set_cons_succ]
                  repeat (
                    refine lex_val (v := ?_) rfl rfl (fun w' hf => ?_) ?_
                    rotate_left
                    · go_simp
                      try rfl
                    try simp only [Act.put, List.setIfInBounds_toArray, List.set_cons_zero, List.set_cons_succ])
                  refine lex_nil fun v6 he => ?_
                  have HK7 := Lib.hid (HK6.out.next he.only.below0)
                  clear he
                  go_wp2_with fail
                  go_ret
                  exact ⟨rfl, HK7.out.2.2.1⟩
                · have hq2 : (q == 0) = false := by simpa using hq
                  clear HBz HL hq
                  refine wp_region_mix_lit (by kernel_rfl) [(1, .call (.int .i64 q))] (by kernel_rfl) (by kernel_rfl) (by kernel_rfl) (by rfl) (by simp [apartK] <;> omega) (by simp [startK]) (by simp [stabK]) (⟨fun _ => undef, by simp [okK]⟩) (fun β hβ => ?_)
                  repeat (
                    refine lex_val (v := ?_) rfl rfl (fun w' hf => ?_) ?_
                    rotate_left
                    · obtain ⟨a0, a1, a2, a3, a4, a5⟩ := six (HK5.out.1.next hf.only.below0); go_simp
                      try rfl
                    try simp only [Act.put, List.setIfInBounds_toArray, List.set_cons_zero, List.set_cons_succ])
                  refine lex_call (f := 8) (args := ?_) rfl rfl (fun w' hf => ?_) (fun w' hf => ?_) ?_
                  rotate_left
                  · obtain ⟨a0, a1, a2, a3, a4, a5⟩ := six (HK5.out.1.next hf.only.below0); go_simp
                    try rfl
                  · obtain ⟨a0, a1, a2, a3, a4, a5⟩ := six (HK5.out.1.next hf.only.below0); exact HC1.out w' (HRt.out w' hf.only.below0).1 (HRt.out w' hf.only.below0).2
                  try simp only [Act.put, List.setIfInBounds_toArray, List.set_cons_zero, List.set_cons_succ]
                  repeat (
                    refine lex_val (v := ?_) rfl rfl (fun w' hf => ?_) ?_
                    rotate_left
                    · go_simp
                      try rfl
                    try simp only [Act.put, List.setIfInBounds_toArray, List.set_cons_zero, List.set_cons_succ])
                  repeat (
                    refine lex_skip rfl rfl ?_
                    try simp only [Act.put, List.setIfInBounds_toArray, List.set_cons_zero, List.set_cons_succ])
                  repeat (
                    refine lex_val (v := ?_) rfl rfl (fun w' hf => ?_) ?_
                    rotate_left
                    · go_simp
                      try rfl
                    try simp only [Act.put, List.setIfInBounds_toArray, List.set_cons_zero, List.set_cons_succ])
                  refine lex_nil fun v5 he => ?_
                  have HK6 := Lib.hid (HK5.out.next he.only.below0)
                  clear he
                  go_wp2_with fail
                  have HRu := Lib.hid (fun W (h : Below v5.heap.size v5 W) => And.intro (HR.out.1.next (HK6.out.2.2.1.trans (h.mono HK6.out.2.2.1.size))) (HR.out.2.next (HK6.out.2.2.1.trans (h.mono HK6.out.2.2.1.size))))
                  go_upto_region 25 with fail
                  refine wp_region_mix_lit (by kernel_rfl) [(1, .call (.agg (tkC k (c : Int) (m : Int) Px ps px s Dx dt dx))), (3, .call (.bool true)), (7, .letter (TlP k c m ps s dt) (TlF v5.heap.size k c m ps s dt)), (8, .call (.bool true))] (by kernel_rfl) (by kernel_rfl) (by kernel_rfl) (by rfl) (by simp [apartK] <;> omega) (by simp [startK]) (by simp only [List.forall_mem_cons, stabK]; exact ⟨trivial, trivial, tl_stab _ _ _ _ _ _ _ _ (by simp [boxes, Kind.boxed]) (by simp [boxes, Kind.boxed]), trivial, by simp⟩) (⟨fun i => .agg (tkC k (c : Int) (m : Int) none ps ps.length s none dt dt.length), by simp only [List.forall_mem_cons, okK]; exact ⟨trivial, trivial, ⟨none, _, none, _, rfl, Nat.le_refl _, Nat.le_refl _⟩, trivial, by simp⟩⟩) (fun β hβ => ?_)
                  obtain ⟨Pz, pz, Dz, dz, e7, _, _⟩ := (hβ 7 : TlP k c m ps s dt (β 7))
                  unfold tkC at *
                  repeat (
                    refine lex_val (v := ?_) rfl rfl (fun w' hf => ?_) ?_
                    rotate_left
                    · obtain ⟨x0, x1, x2, x3, x4, x5⟩ := six (HK6.out.2.1.next hf.only.below0); obtain ⟨a0, a1, a2, a3, a4, a5⟩ := six (HK6.out.1.next hf.only.below0); go_simp
                      try rfl
                    try simp only [Act.put, List.setIfInBounds_toArray, List.set_cons_zero, List.set_cons_succ])
                  refine lex_call (f := 11) (args := ?_) rfl rfl (fun w' hf => ?_) (fun w' hf => ?_) ?_
                  rotate_left
                  · obtain ⟨x0, x1, x2, x3, x4, x5⟩ := six (HK6.out.2.1.next hf.only.below0); obtain ⟨a0, a1, a2, a3, a4, a5⟩ := six (HK6.out.1.next hf.only.below0); go_simp
                    try rfl
                  · obtain ⟨x0, x1, x2, x3, x4, x5⟩ := six (HK6.out.2.1.next hf.only.below0); obtain ⟨a0, a1, a2, a3, a4, a5⟩ := six (HK6.out.1.next hf.only.below0); exact HTo.out Px px Dx dx w'
                  try simp only [Act.put, List.setIfInBounds_toArray, List.set_cons_zero, List.set_cons_succ]
                  repeat (
                    refine lex_val (v := ?_) rfl rfl (fun w' hf => ?_) ?_
                    rotate_left
                    · obtain ⟨x0, x1, x2, x3, x4, x5⟩ := six (HK6.out.2.1.next hf.only.below0); obtain ⟨a0, a1, a2, a3, a4, a5⟩ := six (HK6.out.1.next hf.only.below0); go_simp
                      try rfl
                    try simp only [Act.put, List.setIfInBounds_toArray, List.set_cons_zero, List.set_cons_succ])
                  refine lex_call (f := 10) (args := ?_) rfl rfl (fun w' hf => ?_) (fun w' hf => ?_) ?_
                  rotate_left
                  · obtain ⟨x0, x1, x2, x3, x4, x5⟩ := six (HK6.out.2.1.next hf.only.below0); obtain ⟨a0, a1, a2, a3, a4, a5⟩ := six (HK6.out.1.next hf.only.below0); go_simp
                    try rfl
                  · obtain ⟨x0, x1, x2, x3, x4, x5⟩ := six (HK6.out.2.1.next hf.only.below0); obtain ⟨a0, a1, a2, a3, a4, a5⟩ := six (HK6.out.1.next hf.only.below0); exact HRS.out Px px Dx dx w' (HK6.out.2.2.2.1.next hf.only.below0) (HRu.out w' hf.only.below0).1 (HK6.out.2.2.2.2.next hf.only.below0) (HRu.out w' hf.only.below0).2
                  try simp only [Act.put, List.setIfInBounds_toArray, List.set_cons_zero, List.set_cons_succ]
                  repeat (
                    refine lex_val (v := ?_) rfl rfl (fun w' hf => ?_) ?_
                    rotate_left
                    · obtain ⟨x0, x1, x2, x3, x4, x5⟩ := six (HK6.out.2.1.next hf.only.below0); obtain ⟨a0, a1, a2, a3, a4, a5⟩ := six (HK6.out.1.next hf.only.below0); go_simp
                      try rfl
                    try simp only [Act.put, List.setIfInBounds_toArray, List.set_cons_zero, List.set_cons_succ])
                  refine lex_letter (f := 6) (args := ?_) rfl rfl (fun w' hf => ?_) (fun w' hf => ?_) ?_
                  rotate_left
                  · obtain ⟨x0, x1, x2, x3, x4, x5⟩ := six (HK6.out.2.1.next hf.only.below0); obtain ⟨a0, a1, a2, a3, a4, a5⟩ := six (HK6.out.1.next hf.only.below0); go_simp
                    try rfl
                  · obtain ⟨x0, x1, x2, x3, x4, x5⟩ := six (HK6.out.2.1.next hf.only.below0); obtain ⟨a0, a1, a2, a3, a4, a5⟩ := six (HK6.out.1.next hf.only.below0); exact (HCp.out Px px Dx dx w' (HK6.out.2.2.2.1.next hf.only.below0) (HK6.out.2.2.2.2.next hf.only.below0)).mono (fun e w'' ⟨⟨P9, p9, D9, d9, h1, h2, h3, h4, h5⟩, h6⟩ => ⟨_, h1, ⟨P9, p9, D9, d9, rfl, h2, h3⟩, ⟨P9, p9, D9, d9, rfl, own_base (oints_own h4) hf.only.size, own_base (obyt_own h5) hf.only.size⟩, h6⟩)
                  try simp only [Act.put, List.setIfInBounds_toArray, List.set_cons_zero, List.set_cons_succ]
                  refine lex_call (f := 12) (args := #[.agg #[.int .i64 k, .int .u8 (c : Int), .int .u8 (m : Int), .slice Px ps.length px, .string s, .slice Dx dt.length dx], .agg #[.int .i64 k, .int .u8 (c : Int), .int .u8 (m : Int), .slice Pz ps.length pz, .string s, .slice Dz dt.length dz]]) rfl rfl (fun w' hf => ?_) (fun w' hf => ?_) ?_
                  · rw [e7]
                    go_simp
                  · have hg : TlF v5.heap.size k c m ps s dt (β 7) w' := hf.got 7 _ _ rfl (by kernel_rfl)
                    rw [e7] at hg
                    have hz := tl_same hg
                    exact HSa.out Px px Dx dx Pz pz Dz dz w' (HK6.out.2.2.2.1.next hf.only.below0) (OInts.reads hz.1) (HK6.out.2.2.2.2.next hf.only.below0) (OByt.reads hz.2)
                  try simp only [Act.put, List.setIfInBounds_toArray, List.set_cons_zero, List.set_cons_succ]
                  repeat (
                    refine lex_val (v := ?_) rfl rfl (fun w' hf => ?_) ?_
                    rotate_left
                    · go_simp
                      try rfl
                    try simp only [Act.put, List.setIfInBounds_toArray, List.set_cons_zero, List.set_cons_succ])
                  refine lex_nil fun v6 he => ?_
                  have HK7 := Lib.hid (HK6.out.next he.only.below0)
                  clear he
                  go_wp2_with fail
                  go_ret
                  exact ⟨rfl, HK7.out.2.2.1⟩

set_option maxRecDepth 100000 in
/-- What the walk gives, for every argument and every world that holds the table. -/
theorem contract (H : Type) (enc : TypeId × Value → H) (W : World) (base : Nat) (args : Array Value) (ds gs : List (DataW H)) (before : List MemPlace)
    (hval : ∀ (j : Nat) t v, Tryd.f3.params[j]? = some t → args[j]? = some v → Value.okWide Tryd.prog W .any base t v)
    (hW : DataW.Whole enc Tryd.prog Tryd.f3.params.toList Rows.tokenKeepsSpec.vars false W args.toList ds gs before) (hL : laidMetH Tryd.prog Rows.tokenKeepsRow.laid W)
    (hreach : (DataW.weightsEach Tryd.prog (Tryd.f3.params.toList ++ []) (ds ++ gs)).all (· ≤ reachBytes) = true) :
    Calls Tryd.prog 3 args W fun e W' => ∃ v, e = .returned v ∧ Rows.tokenKeepsSpec.post enc Tryd.prog Tryd.f3 false true false false W args v W' := by
  have hW' := hW
  have ht := ten_of hL
  have hlts : ∀ x ∈ before, x.block < W.heap.size := fun x hx => hW'.lt x hx
  obtain ⟨p, q, hA0, hV, rfl, hfz, hnd⟩ := hW
  have hA : DataW.TrodAll enc Tryd.prog W 0 (fun _ => true) true Tryd.f3.params.toList args.toList ds p := hA0
  rw [Tryd.params3] at hA hval hreach
  obtain ⟨v0, vs0, d0, ds0, pp0, qq0, hargs, rfl, rfl, h0, rr0⟩ := trodAll_cons hA
  obtain ⟨rfl, rfl, rfl⟩ := trodAll_nil rr0
  obtain rfl : args = #[v0] := by cases args; simp_all
  obtain ⟨rfl, rfl⟩ := trodVars_none hV
  obtain ⟨k0, c0, m0, P0, ps0, pc0, s0, D0, dt0, dc0, rfl, hcc0, hmm0, hp0, hpp0, hs0, hd0, _, hdd0, hrp0, hrb0⟩ := tok_in2 (hval 0 25 v0 rfl rfl) h0 (by rw [List.all_eq_true]; exact fun n hn => List.all_eq_true.1 hreach n (DataW.weights_mem_each (j := 0) rfl rfl n hn))
  have hri0 := And.intro (And.intro hrp0 hrb0) (And.intro hcc0 (And.intro hmm0 (And.intro hpp0 hdd0)))
  clear hA0
  refine (walk k0 c0 m0 P0 ps0 pc0 s0 D0 dt0 dc0 hp0 hs0 hd0 W ht hri0).mono fun e W' ⟨he, hb⟩ => ?_
  subst he
  exact ⟨_, rfl, post_law laidOut (by kernel_rfl) (by kernel_rfl) rfl hW' rfl hb⟩

set_option maxRecDepth 100000 in
theorem laid_met (os : Os) : laidMet Tryd.prog Rows.tokenKeepsRow.laid ((laidWorld os).forCall (fun _ _ => 0) ⟨#[], #[Value.agg #[.int .i64 0, .int .u8 0, .int .u8 0, .slice none 0 0, .string ⟨#[]⟩, .slice none 0 0]], []⟩).memory :=
  laidMet_of_run' 8 (by kernel_rfl) (by kernel_rfl)
set_option maxRecDepth 100000 in
theorem reads (os : Os) {H : Type} (enc : TypeId × Value → H) : ∃ places, DataW.whole enc Tryd.prog ((laidWorld os).forCall (fun _ _ => 0) ⟨#[], #[Value.agg #[.int .i64 0, .int .u8 0, .int .u8 0, .slice none 0 0, .string ⟨#[]⟩, .slice none 0 0]], []⟩).memory Tryd.f3.params.toList Rows.tokenKeepsSpec.vars false (#[Value.agg #[.int .i64 0, .int .u8 0, .int .u8 0, .slice none 0 0, .string ⟨#[]⟩, .slice none 0 0]] : Array Value).toList 8 = some ([.agg [.lit (.int .i64 0), .lit (.int .u8 0), .lit (.int .u8 0), .nil, .lit (.string []), .nil]], [], places) :=
  ⟨[], by kernel_rfl⟩

set_option maxRecDepth 100000 in
theorem lifted (os : Os) (started : os.Started) (H : Type) (enc : TypeId × Value → H) (F : Stop.Interp) :
    ReturnsInHanded {} Tryd.checked os 3 .any ((OpenSpec.ofChange Rows.tokenKeepsSpec).preRow enc Tryd.prog Tryd.f3 Rows.tokenKeepsRow.domain false Rows.tokenKeepsRow.laid) (((OpenSpec.ofChange Rows.tokenKeepsSpec).at F).post enc Tryd.prog Tryd.f3 false true false false) := by
  obtain ⟨places, hx⟩ := reads os enc
  refine returnsInHanded_of_row (C := Tryd.checked) (s := OpenSpec.ofChange Rows.tokenKeepsSpec) own started (by kernel_rfl) Tryd.func3
    (witness_row_at (enc := enc) (C := Tryd.checked) false (laidWorld os) #[Value.agg #[.int .i64 0, .int .u8 0, .int .u8 0, .slice none 0 0, .string ⟨#[]⟩, .slice none 0 0]] rfl (by kernel_rfl) (by kernel_rfl) (by kernel_rfl)
      (OpenSpec.preRow_of_cond 8 hx (by kernel_rfl) (fun k hk => by cases hk) (by kernel_rfl) (laid_met os))) ?_
  intro W base args ds gs before hval hW _ _ hreach hL _ _
  exact contract H enc W base args ds gs before hval hW hL hreach

theorem said : Rows.TokenKeepsSaid :=
  OpenClaim.holds_of_cond 3 Tryd.f3 rfl rfl rfl rfl rfl rfl rfl ⟨rfl, rfl, rfl, rfl, rfl⟩ rfl rfl rfl rfl rfl (by kernel_rfl) Tryd.func3 (by kernel_rfl)
    (of_decide_eq_true (by kernel_rfl)) (by unfold Func.isWrapper; first | (rw [if_pos (by decide +kernel)]; kernel_rfl) | (rw [if_neg (by decide +kernel)]; exact ⟨rfl, rfl⟩))
    (fun os started H enc _ F => by rw [OpenClaim.pre_eq_preRow]; exact lifted os started H enc F)

theorem plain (f : FuncId) (fn : Func) (hf : Tryd.pinned.checked.prog.funcNamed "phosphor/phosphorlaw11.TokenKeeps" = some f) (hfn : Tryd.pinned.checked.prog.funcs[f]? = some fn) :
    false = Tryd.pinned.checked.prog.looks [] ∧ ∀ (j : Nat) t, fn.params[j]? = some t → Tryd.pinned.checked.prog.wantsStandIn t = false := by
  obtain rfl : f = 3 := Option.some.inj ((show Tryd.prog.funcNamed "phosphor/phosphorlaw11.TokenKeeps" = some 3 by kernel_rfl).symm.trans hf) |>.symm
  obtain rfl : fn = Tryd.f3 := (Option.some.inj (Tryd.func3.symm.trans hfn)).symm
  refine ⟨by kernel_rfl, fun j t ht => ?_⟩
  rw [Tryd.params3] at ht
  have hm : t ∈ [25] := by simpa using Array.mem_of_getElem? ht
  have hall : ([25].all fun u => !Tryd.prog.wantsStandIn u) = true := by kernel_rfl
  exact (show Tryd.prog.wantsStandIn t = false by simpa using List.all_eq_true.1 hall t hm)

/-- The card. -/
theorem card : Rows.TokenKeepsCardSaid :=
  Claim7.holds_tied_plain_at .later [] _ _ _ _ said (fun _ h => by cases h) (by kernel_rfl) (fun _ h => by cases h) tokenKeeps_row_tie rfl ⟨rfl, rfl⟩ (by kernel_rfl) rfl plain (by kernel_rfl)
#print axioms card
end Go.Proofs.YtmaklogelidjaaaDoor.tokenKeeps

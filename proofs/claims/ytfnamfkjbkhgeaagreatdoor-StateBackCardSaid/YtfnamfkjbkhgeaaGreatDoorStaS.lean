/-
  The cursor brought back by the program: what its report's fields say, one by one.
-/
import Derived.Test.YtfnamfkjbkhgeaaGreatDoorStaT
namespace Go.Proofs.YtfnamfkjbkhgeaaGreatDoor
open Go Go.RowKit

def rdAt (H W P : Int) (k : Nat) (f : ByteArray) : Int × Bool := match k with
  | 0 => rdNear 1 H f | 1 => rdNear 1 W f | 2 => rdNear 1 P f | 3 => rdBits 0 31 f | 4 => rdBits 0 1 f | 5 => rdBits 0 15 f | 6 => rdNear 0 65535 f | 7 => rdNear 0 65535 f | _ => rdBits 0 15 f
def nz9 : Array Value := #[.int .i64 0, .int .i64 0, .int .i64 0, .int .i64 0, .int .i64 0, .int .i64 0, .int .i64 0, .int .i64 0, .int .i64 0]
/-- The numbers told so far. -/
def tkA (t0 t1 t2 t3 t4 t5 t6 t7 t8 : Int) : Nat → Array Value
  | 0 => #[.int .i64 0, .int .i64 0, .int .i64 0, .int .i64 0, .int .i64 0, .int .i64 0, .int .i64 0, .int .i64 0, .int .i64 0]
  | 1 => #[.int .i64 t0, .int .i64 0, .int .i64 0, .int .i64 0, .int .i64 0, .int .i64 0, .int .i64 0, .int .i64 0, .int .i64 0]
  | 2 => #[.int .i64 t0, .int .i64 t1, .int .i64 0, .int .i64 0, .int .i64 0, .int .i64 0, .int .i64 0, .int .i64 0, .int .i64 0]
  | 3 => #[.int .i64 t0, .int .i64 t1, .int .i64 t2, .int .i64 0, .int .i64 0, .int .i64 0, .int .i64 0, .int .i64 0, .int .i64 0]
  | 4 => #[.int .i64 t0, .int .i64 t1, .int .i64 t2, .int .i64 t3, .int .i64 0, .int .i64 0, .int .i64 0, .int .i64 0, .int .i64 0]
  | 5 => #[.int .i64 t0, .int .i64 t1, .int .i64 t2, .int .i64 t3, .int .i64 t4, .int .i64 0, .int .i64 0, .int .i64 0, .int .i64 0]
  | 6 => #[.int .i64 t0, .int .i64 t1, .int .i64 t2, .int .i64 t3, .int .i64 t4, .int .i64 t5, .int .i64 0, .int .i64 0, .int .i64 0]
  | 7 => #[.int .i64 t0, .int .i64 t1, .int .i64 t2, .int .i64 t3, .int .i64 t4, .int .i64 t5, .int .i64 t6, .int .i64 0, .int .i64 0]
  | 8 => #[.int .i64 t0, .int .i64 t1, .int .i64 t2, .int .i64 t3, .int .i64 t4, .int .i64 t5, .int .i64 t6, .int .i64 t7, .int .i64 0]
  | _ => #[.int .i64 t0, .int .i64 t1, .int .i64 t2, .int .i64 t3, .int .i64 t4, .int .i64 t5, .int .i64 t6, .int .i64 t7, .int .i64 t8]
theorem cells_fls (fs : List ByteArray) (N k : Nat) (f : ByteArray) (h : fs[k]? = some f) : (Lib.cellsOf fs N)[k]? = some (.string f) := by
  unfold Lib.cellsOf
  rw [List.getElem?_toArray, List.getElem?_append_left (by rw [List.length_map]; exact (List.getElem?_eq_some_iff.1 h).1), List.getElem?_map, h]
  rfl
set_option maxRecDepth 100000 in
set_option maxHeartbeats 16000000 in
theorem setCurTen_any {x : Co} {H W it il ib ir : Int} (h : FrOk x.f H W it il ib ir) (hr0 : 0 ≤ x.K.rd) (hr1 : x.K.rd ≤ 255) (hm : x.m < 2 ^ 32) (s : ByteArray) (hs : s.size ≤ 100000) (f0 f1 f2 f3 f4 f5 f6 f7 f8 f9 : ByteArray) (hm0 : f0.size ≤ maxLen) (hm1 : f1.size ≤ maxLen) (hm2 : f2.size ≤ maxLen) (hm3 : f3.size ≤ maxLen) (hm4 : f4.size ≤ maxLen) (hm5 : f5.size ≤ maxLen) (hm6 : f6.size ≤ maxLen) (hm7 : f7.size ≤ maxLen) (hm8 : f8.size ≤ maxLen) (hfl : flsP s = [f0, f1, f2, f3, f4, f5, f6, f7, f8, f9]) (w : World) (ht : Tab w) (hfc : Faces w) (hbl : Blanks w) :
    Calls Tryz.prog 11 #[coV .u32 x, .string s] w fun e w' => e = .returned (scV (clnP x H W it il ib ir) (scQ (clnP x H W it il ib ir) f0 f1 f2 f3 f4 f5 f6 f7 f8) f9) ∧ Below w.heap.size w w' := by
  have HCl := Lib.hid (fun V t f => cleanC_any h hr0 hr1 hm V t f)
  have hk := cl_ok h
  have HT := Lib.hid ht; have HF := Lib.hid hfc; have HBl := Lib.hid hbl
  have HSp := Lib.hid (fun V => splitN_any s hs V)
  have hlen : (flsP s).length = 10 := by rw [hfl]; rfl
  rw [hlen, hfl] at HSp
  generalize min 11 (s.size + 1) = N at *
  obtain ⟨y, hy⟩ : ∃ y, y = clnP x H W it il ib ir := ⟨_, rfl⟩
  rw [← hy] at HCl hk ⊢
  obtain ⟨V, hV⟩ : ∃ V, V = scV y (scQ y f0 f1 f2 f3 f4 f5 f6 f7 f8) f9 := ⟨_, rfl⟩
  rw [← hV]
  obtain ⟨SP, hSP⟩ : ∃ SP, SP = scP y (scQ y f0 f1 f2 f3 f4 f5 f6 f7 f8) f9 := ⟨_, rfl⟩
  have hV2 : V = if ((rdNear 1 y.f.pb f0).2 && ((rdNear 1 y.f.pr f1).2 && ((rdNear 1 y.ps f2).2 && ((rdBits 0 31 f3).2 && ((rdBits 0 1 f4).2 && ((rdBits 0 15 f5).2 && ((rdNear 0 65535 f6).2 && ((rdNear 0 65535 f7).2 && (rdBits 0 15 f8).2)))))))) = true then SP else .tuple #[coV .u32 y, .int .i64 3] := by rw [hV, hSP]; rfl
  clear hV
  have hpl := placed_ten y hk f0 f1 f2 f3 f4 f5 f6 f7 f8 f9
  rw [← hSP] at hpl
  simp only [scOk, scQ, Bool.and_eq_true] at hpl
  have HPL := Lib.hid hpl
  clear hpl
  replace hSP := Lib.hid hSP; replace hV2 := Lib.hid hV2
  have HRd := Lib.hid (fun V => readers_any y hk V)
  clear h hr0 hr1 hm ht hfc hbl hy hs hlen hfl
  have hS1 := coS .u32 x; have hS2 := coS .u32 y; have hO2 := co_one .u32 y
  unfold coV at *
  generalize coC .u32 x = X at *
  generalize coC .u32 y = Y at *
  have HS := Lib.hid (Bs.start2' w 45 45 X (zO .u32))
  go_enter Tryz.func11, Tryz.ntmps11
  go_wp2_with (first | (refine wpList_load_row rfl _ _ rfl w.heap.size rfl _ X (0, 0) _ HS.out.b0 under_co rfl (by rw [hS1]; exact info_co) ?_))
  refine (HCl.out _ (HT.out.next HS.out.bel) (HF.out.next HS.out.bel)).mono ?_
  rintro e w1 ⟨rfl, hb⟩
  have HK1 := Lib.hid (HS.out.next hb)
  clear hb
  go_upto_region 2 with (refine wpList_store_row rfl _ _ _ rfl w.heap.size Y rfl rfl _ _ HK1.out.b0 (by rw [hS2]; exact info_co) (by rw [hS1, hS2]) hO2 ?_)
  refine world_gen (fun V => Bs w [(w.heap.size, 45, Y), (w.heap.size + 1, 45, zO .u32)] V) (HK1.out.row Y) ?_
  intro w2 HV0
  replace HV0 := Lib.hid HV0
  clear HK1 HS HCl
  go_wp2_with fail
  refine (HSp.out _).mono ?_
  rintro e w3 ⟨rfl, rfl⟩
  --#1
  have HK2 := Lib.hid (HV0.out.alloc 9 (Lib.cellsOf [f0, f1, f2, f3, f4, f5, f6, f7, f8, f9] N))
  generalize hg6 : w2.heap.size = g6 at *
  go_upto_region 6 with fail
  --#2
  refine world_gen (fun V => Bs w [(g6 + 1, 84, nz9), (g6, 9, Lib.cellsOf [f0, f1, f2, f3, f4, f5, f6, f7, f8, f9] N), (w.heap.size, 45, Y), (w.heap.size + 1, 45, zO .u32)] V) (by have h := HK2.out.alloc 84 nz9; have e : (w2.alloc (.cells (Lib.cellsOf [f0, f1, f2, f3, f4, f5, f6, f7, f8, f9] N) 9)).heap.size = g6 + 1 := (by simp [hg6]); rw [e] at h; exact h) ?_
  intro w4 H4
  have HK4 := Lib.hid H4
  clear H4 HK2 HV0 HSp hg6
  go_wp2_with (first | (refine wpList_load_row rfl _ _ rfl w.heap.size rfl _ Y (0, 0) _ HK4.out.b2 under_co rfl (by rw [hS2]; exact info_co) ?_))
  refine (HRd.out _).mono ?_
  rintro e w5 ⟨rfl, hb⟩
  have HK5 := Lib.hid (HK4.out.next hb)
  clear hb HK4 HRd
  generalize y.f.pb = PH at *
  generalize y.f.pr = PW at *
  generalize y.ps = PP at *
  go_upto_region 7 with fail
  have HNr := Lib.hid (fun lo hi f hf V => rdNear_any lo hi f hf V); have HBr := Lib.hid (fun lo hi f hf V => rdBits_any lo hi f hf V)
  have HR0 := Lib.hid (fun V => HNr.out 1 PH f0 hm0 V)
  unfold rdV at HR0
  generalize hq0 : rdNear 1 PH f0 = q0 at *
  obtain ⟨z0, k0⟩ := q0
  simp only at HR0
  have HR1 := Lib.hid (fun V => HNr.out 1 PW f1 hm1 V)
  unfold rdV at HR1
  generalize hq1 : rdNear 1 PW f1 = q1 at *
  obtain ⟨z1, k1⟩ := q1
  simp only at HR1
  have HR2 := Lib.hid (fun V => HNr.out 1 PP f2 hm2 V)
  unfold rdV at HR2
  generalize hq2 : rdNear 1 PP f2 = q2 at *
  obtain ⟨z2, k2⟩ := q2
  simp only at HR2
  have HR3 := Lib.hid (fun V => HBr.out 0 31 f3 hm3 V)
  unfold rdV at HR3
  generalize hq3 : rdBits 0 31 f3 = q3 at *
  obtain ⟨z3, k3⟩ := q3
  simp only at HR3
  have HR4 := Lib.hid (fun V => HBr.out 0 1 f4 hm4 V)
  unfold rdV at HR4
  generalize hq4 : rdBits 0 1 f4 = q4 at *
  obtain ⟨z4, k4⟩ := q4
  simp only at HR4
  have HR5 := Lib.hid (fun V => HBr.out 0 15 f5 hm5 V)
  unfold rdV at HR5
  generalize hq5 : rdBits 0 15 f5 = q5 at *
  obtain ⟨z5, k5⟩ := q5
  simp only at HR5
  have HR6 := Lib.hid (fun V => HNr.out 0 65535 f6 hm6 V)
  unfold rdV at HR6
  generalize hq6 : rdNear 0 65535 f6 = q6 at *
  obtain ⟨z6, k6⟩ := q6
  simp only at HR6
  have HR7 := Lib.hid (fun V => HNr.out 0 65535 f7 hm7 V)
  unfold rdV at HR7
  generalize hq7 : rdNear 0 65535 f7 = q7 at *
  obtain ⟨z7, k7⟩ := q7
  simp only at HR7
  have HR8 := Lib.hid (fun V => HBr.out 0 15 f8 hm8 V)
  unfold rdV at HR8
  generalize hq8 : rdBits 0 15 f8 = q8 at *
  obtain ⟨z8, k8⟩ := q8
  simp only at HR8
  clear HNr HBr hm0 hm1 hm2 hm3 hm4 hm5 hm6 hm7 hm8
  replace hq0 := Lib.hid hq0
  replace hq1 := Lib.hid hq1
  replace hq2 := Lib.hid hq2
  replace hq3 := Lib.hid hq3
  replace hq4 := Lib.hid hq4
  replace hq5 := Lib.hid hq5
  replace hq6 := Lib.hid hq6
  replace hq7 := Lib.hid hq7
  replace hq8 := Lib.hid hq8
  --#3
  go_loopw [22] (fun i wr => ∃ k : Nat, k ≤ 9 ∧ i = .int .i64 k ∧ Hid ((0 < k → k0 = true) ∧ (1 < k → k1 = true) ∧ (2 < k → k2 = true) ∧ (3 < k → k3 = true) ∧ (4 < k → k4 = true) ∧ (5 < k → k5 = true) ∧ (6 < k → k6 = true) ∧ (7 < k → k7 = true) ∧ (8 < k → k8 = true)) ∧ Bs w [(g6 + 1, 84, tkA z0 z1 z2 z3 z4 z5 z6 z7 z8 k), (g6, 9, Lib.cellsOf [f0, f1, f2, f3, f4, f5, f6, f7, f8, f9] N), (w.heap.size, 45, Y), (w.heap.size + 1, 45, zO .u32)] (wr)) (fun i _ => 9 - (intOf i).toNat)
  case atStart => exact ⟨0, by omega, rfl, Lib.hid ⟨fun h => absurd h (by omega), fun h => absurd h (by omega), fun h => absurd h (by omega), fun h => absurd h (by omega), fun h => absurd h (by omega), fun h => absurd h (by omega), fun h => absurd h (by omega), fun h => absurd h (by omega), fun h => absurd h (by omega)⟩, HK5.out⟩
  case round =>
    obtain ⟨k, hk, rfl, hO, hB⟩ := hrel
    have HBB := Lib.hid hB
    clear hB
    by_cases hlt : k < 9
    · match k, hlt with
      | 0, _ =>
        have hW : IntKind.i64.wrap (0 + 1) = 1 := by decide +kernel
        have l0 : wr.cell? ⟨g6, 0, none⟩ = some (.string f0) := (Blk.cell HBB.out.b1 0).trans (cells_fls _ N 0 f0 rfl)
        have hix : ∀ W, (Instr.index 86 (.agg (rdrs PH PW PP)) (.int .i64 0)).run Tryz.prog W = .ok (nrF 1 PH) W := fun W => by rfl
        unfold nrF at hix
        --#c0
        rcases hok : k0 with _ | _
        · rw [hok] at HR0
          --#d0
          have hVn : V = .tuple #[.agg Y, .int .i64 3] := by
            have h := hV2.out
            rw [hok] at h
            rw [h]
            simp
          replace hVn := Lib.hid hVn
          go_upto_region 9 with fail
          go_wp2_with fail
          refine (HR0.out _).mono ?_
          rintro e w6 ⟨rfl, hb6⟩
          have HB6 := Lib.hid (HBB.out.next hb6)
          clear hb6
          have HKf := Lib.hid (HB6.out.sw3s.row Y)
          go_upto_region 11 with fail
          go_step
          refine wpList_load_row rfl _ _ rfl w.heap.size rfl _ Y (0, 0) _ HB6.out.b2 under_co rfl (by rw [hS2]; exact info_co) ?_
          refine wpList_store_row rfl _ _ _ rfl (w.heap.size + 1) Y rfl rfl _ _ HB6.out.b3 (by rw [hS2]; exact info_co) (by rw [hS2]; rfl) hO2 ?_
          repeat go_step
          refine bodyPost_ret (v := .tuple #[.agg Y, .int .i64 3]) (results_row_tmp rfl _ _ (w.heap.size + 1) 45 Y (0, 0) _ (.int .i64 3) rfl rfl HKf.out.b0 under_co rfl (by rw [hS2]; exact info_co)) rfl ⟨by rw [hVn.out], HKf.out.bel⟩
        · rw [hok] at HR0
          go_upto_region 9 with fail
          go_wp2_with fail
          refine (HR0.out _).mono ?_
          rintro e w6 ⟨rfl, hb6⟩
          have HB6 := Lib.hid (HBB.out.next hb6)
          clear hb6
          --#g0
          have s0 : w6.cell? ⟨g6 + 1, 0, none⟩ = some (.int .i64 0) := HB6.out.b0.cell 0
          have s1 : w6.frozen? ⟨g6 + 1, 0, none⟩ = false := HB6.out.b0.frozen 0
          have hq : Bs w [(g6 + 1, 84, tkA z0 z1 z2 z3 z4 z5 z6 z7 z8 1), (g6, 9, Lib.cellsOf [f0, f1, f2, f3, f4, f5, f6, f7, f8, f9] N), (w.heap.size, 45, Y), (w.heap.size + 1, 45, zO .u32)] (w6.setCell ⟨g6 + 1, 0, none⟩ (.int .i64 z0)) := HB6.out.s0 0 (.int .i64 z0)
          have HQ := Lib.hid hq
          clear hq
          --#e0
          go_wp2_with fail
          go_roundw
          case rel => exact ⟨1, by omega, by first | rfl | go_num, Lib.hid ⟨fun _ => by first | exact hok | trivial, fun h => absurd h (by omega), fun h => absurd h (by omega), fun h => absurd h (by omega), fun h => absurd h (by omega), fun h => absurd h (by omega), fun h => absurd h (by omega), fun h => absurd h (by omega), fun h => absurd h (by omega)⟩, HQ.out⟩
          case measure => simp [intOf]
      | 1, _ =>
        have hW : IntKind.i64.wrap (1 + 1) = 2 := by decide +kernel
        have l0 : wr.cell? ⟨g6, 1, none⟩ = some (.string f1) := (Blk.cell HBB.out.b1 1).trans (cells_fls _ N 1 f1 rfl)
        have hix : ∀ W, (Instr.index 86 (.agg (rdrs PH PW PP)) (.int .i64 1)).run Tryz.prog W = .ok (nrF 1 PW) W := fun W => by rfl
        unfold nrF at hix
        --#c1
        rcases hok : k1 with _ | _
        · rw [hok] at HR1
          --#d1
          have hVn : V = .tuple #[.agg Y, .int .i64 3] := by
            have h := hV2.out
            rw [hok] at h
            rw [h]
            simp
          replace hVn := Lib.hid hVn
          go_upto_region 9 with fail
          go_wp2_with fail
          refine (HR1.out _).mono ?_
          rintro e w6 ⟨rfl, hb6⟩
          have HB6 := Lib.hid (HBB.out.next hb6)
          clear hb6
          have HKf := Lib.hid (HB6.out.sw3s.row Y)
          go_upto_region 11 with fail
          go_step
          refine wpList_load_row rfl _ _ rfl w.heap.size rfl _ Y (0, 0) _ HB6.out.b2 under_co rfl (by rw [hS2]; exact info_co) ?_
          refine wpList_store_row rfl _ _ _ rfl (w.heap.size + 1) Y rfl rfl _ _ HB6.out.b3 (by rw [hS2]; exact info_co) (by rw [hS2]; rfl) hO2 ?_
          repeat go_step
          refine bodyPost_ret (v := .tuple #[.agg Y, .int .i64 3]) (results_row_tmp rfl _ _ (w.heap.size + 1) 45 Y (0, 0) _ (.int .i64 3) rfl rfl HKf.out.b0 under_co rfl (by rw [hS2]; exact info_co)) rfl ⟨by rw [hVn.out], HKf.out.bel⟩
        · rw [hok] at HR1
          go_upto_region 9 with fail
          go_wp2_with fail
          refine (HR1.out _).mono ?_
          rintro e w6 ⟨rfl, hb6⟩
          have HB6 := Lib.hid (HBB.out.next hb6)
          clear hb6
          --#g1
          have s0 : w6.cell? ⟨g6 + 1, 1, none⟩ = some (.int .i64 0) := HB6.out.b0.cell 1
          have s1 : w6.frozen? ⟨g6 + 1, 1, none⟩ = false := HB6.out.b0.frozen 1
          have hq : Bs w [(g6 + 1, 84, tkA z0 z1 z2 z3 z4 z5 z6 z7 z8 2), (g6, 9, Lib.cellsOf [f0, f1, f2, f3, f4, f5, f6, f7, f8, f9] N), (w.heap.size, 45, Y), (w.heap.size + 1, 45, zO .u32)] (w6.setCell ⟨g6 + 1, 1, none⟩ (.int .i64 z1)) := HB6.out.s0 1 (.int .i64 z1)
          have HQ := Lib.hid hq
          clear hq
          --#e1
          go_wp2_with fail
          go_roundw
          case rel => exact ⟨2, by omega, by first | rfl | go_num, Lib.hid ⟨fun _ => hO.out.1 (by omega), fun _ => by first | exact hok | trivial, fun h => absurd h (by omega), fun h => absurd h (by omega), fun h => absurd h (by omega), fun h => absurd h (by omega), fun h => absurd h (by omega), fun h => absurd h (by omega), fun h => absurd h (by omega)⟩, HQ.out⟩
          case measure => simp [intOf]
      | 2, _ =>
        have hW : IntKind.i64.wrap (2 + 1) = 3 := by decide +kernel
        have l0 : wr.cell? ⟨g6, 2, none⟩ = some (.string f2) := (Blk.cell HBB.out.b1 2).trans (cells_fls _ N 2 f2 rfl)
        have hix : ∀ W, (Instr.index 86 (.agg (rdrs PH PW PP)) (.int .i64 2)).run Tryz.prog W = .ok (nrF 1 PP) W := fun W => by rfl
        unfold nrF at hix
        --#c2
        rcases hok : k2 with _ | _
        · rw [hok] at HR2
          --#d2
          have hVn : V = .tuple #[.agg Y, .int .i64 3] := by
            have h := hV2.out
            rw [hok] at h
            rw [h]
            simp
          replace hVn := Lib.hid hVn
          go_upto_region 9 with fail
          go_wp2_with fail
          refine (HR2.out _).mono ?_
          rintro e w6 ⟨rfl, hb6⟩
          have HB6 := Lib.hid (HBB.out.next hb6)
          clear hb6
          have HKf := Lib.hid (HB6.out.sw3s.row Y)
          go_upto_region 11 with fail
          go_step
          refine wpList_load_row rfl _ _ rfl w.heap.size rfl _ Y (0, 0) _ HB6.out.b2 under_co rfl (by rw [hS2]; exact info_co) ?_
          refine wpList_store_row rfl _ _ _ rfl (w.heap.size + 1) Y rfl rfl _ _ HB6.out.b3 (by rw [hS2]; exact info_co) (by rw [hS2]; rfl) hO2 ?_
          repeat go_step
          refine bodyPost_ret (v := .tuple #[.agg Y, .int .i64 3]) (results_row_tmp rfl _ _ (w.heap.size + 1) 45 Y (0, 0) _ (.int .i64 3) rfl rfl HKf.out.b0 under_co rfl (by rw [hS2]; exact info_co)) rfl ⟨by rw [hVn.out], HKf.out.bel⟩
        · rw [hok] at HR2
          go_upto_region 9 with fail
          go_wp2_with fail
          refine (HR2.out _).mono ?_
          rintro e w6 ⟨rfl, hb6⟩
          have HB6 := Lib.hid (HBB.out.next hb6)
          clear hb6
          --#g2
          have s0 : w6.cell? ⟨g6 + 1, 2, none⟩ = some (.int .i64 0) := HB6.out.b0.cell 2
          have s1 : w6.frozen? ⟨g6 + 1, 2, none⟩ = false := HB6.out.b0.frozen 2
          have hq : Bs w [(g6 + 1, 84, tkA z0 z1 z2 z3 z4 z5 z6 z7 z8 3), (g6, 9, Lib.cellsOf [f0, f1, f2, f3, f4, f5, f6, f7, f8, f9] N), (w.heap.size, 45, Y), (w.heap.size + 1, 45, zO .u32)] (w6.setCell ⟨g6 + 1, 2, none⟩ (.int .i64 z2)) := HB6.out.s0 2 (.int .i64 z2)
          have HQ := Lib.hid hq
          clear hq
          --#e2
          go_wp2_with fail
          go_roundw
          case rel => exact ⟨3, by omega, by first | rfl | go_num, Lib.hid ⟨fun _ => hO.out.1 (by omega), fun _ => hO.out.2.1 (by omega), fun _ => by first | exact hok | trivial, fun h => absurd h (by omega), fun h => absurd h (by omega), fun h => absurd h (by omega), fun h => absurd h (by omega), fun h => absurd h (by omega), fun h => absurd h (by omega)⟩, HQ.out⟩
          case measure => simp [intOf]
      | 3, _ =>
        have hW : IntKind.i64.wrap (3 + 1) = 4 := by decide +kernel
        have l0 : wr.cell? ⟨g6, 3, none⟩ = some (.string f3) := (Blk.cell HBB.out.b1 3).trans (cells_fls _ N 3 f3 rfl)
        have hix : ∀ W, (Instr.index 86 (.agg (rdrs PH PW PP)) (.int .i64 3)).run Tryz.prog W = .ok (btF 0 31) W := fun W => by rfl
        unfold btF at hix
        --#c3
        rcases hok : k3 with _ | _
        · rw [hok] at HR3
          --#d3
          have hVn : V = .tuple #[.agg Y, .int .i64 3] := by
            have h := hV2.out
            rw [hok] at h
            rw [h]
            simp
          replace hVn := Lib.hid hVn
          go_upto_region 9 with fail
          go_wp2_with fail
          refine (HR3.out _).mono ?_
          rintro e w6 ⟨rfl, hb6⟩
          have HB6 := Lib.hid (HBB.out.next hb6)
          clear hb6
          have HKf := Lib.hid (HB6.out.sw3s.row Y)
          go_upto_region 11 with fail
          go_step
          refine wpList_load_row rfl _ _ rfl w.heap.size rfl _ Y (0, 0) _ HB6.out.b2 under_co rfl (by rw [hS2]; exact info_co) ?_
          refine wpList_store_row rfl _ _ _ rfl (w.heap.size + 1) Y rfl rfl _ _ HB6.out.b3 (by rw [hS2]; exact info_co) (by rw [hS2]; rfl) hO2 ?_
          repeat go_step
          refine bodyPost_ret (v := .tuple #[.agg Y, .int .i64 3]) (results_row_tmp rfl _ _ (w.heap.size + 1) 45 Y (0, 0) _ (.int .i64 3) rfl rfl HKf.out.b0 under_co rfl (by rw [hS2]; exact info_co)) rfl ⟨by rw [hVn.out], HKf.out.bel⟩
        · rw [hok] at HR3
          go_upto_region 9 with fail
          go_wp2_with fail
          refine (HR3.out _).mono ?_
          rintro e w6 ⟨rfl, hb6⟩
          have HB6 := Lib.hid (HBB.out.next hb6)
          clear hb6
          --#g3
          have s0 : w6.cell? ⟨g6 + 1, 3, none⟩ = some (.int .i64 0) := HB6.out.b0.cell 3
          have s1 : w6.frozen? ⟨g6 + 1, 3, none⟩ = false := HB6.out.b0.frozen 3
          have hq : Bs w [(g6 + 1, 84, tkA z0 z1 z2 z3 z4 z5 z6 z7 z8 4), (g6, 9, Lib.cellsOf [f0, f1, f2, f3, f4, f5, f6, f7, f8, f9] N), (w.heap.size, 45, Y), (w.heap.size + 1, 45, zO .u32)] (w6.setCell ⟨g6 + 1, 3, none⟩ (.int .i64 z3)) := HB6.out.s0 3 (.int .i64 z3)
          have HQ := Lib.hid hq
          clear hq
          --#e3
          go_wp2_with fail
          go_roundw
          case rel => exact ⟨4, by omega, by first | rfl | go_num, Lib.hid ⟨fun _ => hO.out.1 (by omega), fun _ => hO.out.2.1 (by omega), fun _ => hO.out.2.2.1 (by omega), fun _ => by first | exact hok | trivial, fun h => absurd h (by omega), fun h => absurd h (by omega), fun h => absurd h (by omega), fun h => absurd h (by omega), fun h => absurd h (by omega)⟩, HQ.out⟩
          case measure => simp [intOf]
      | 4, _ =>
        have hW : IntKind.i64.wrap (4 + 1) = 5 := by decide +kernel
        have l0 : wr.cell? ⟨g6, 4, none⟩ = some (.string f4) := (Blk.cell HBB.out.b1 4).trans (cells_fls _ N 4 f4 rfl)
        have hix : ∀ W, (Instr.index 86 (.agg (rdrs PH PW PP)) (.int .i64 4)).run Tryz.prog W = .ok (btF 0 1) W := fun W => by rfl
        unfold btF at hix
        --#c4
        rcases hok : k4 with _ | _
        · rw [hok] at HR4
          --#d4
          have hVn : V = .tuple #[.agg Y, .int .i64 3] := by
            have h := hV2.out
            rw [hok] at h
            rw [h]
            simp
          replace hVn := Lib.hid hVn
          go_upto_region 9 with fail
          go_wp2_with fail
          refine (HR4.out _).mono ?_
          rintro e w6 ⟨rfl, hb6⟩
          have HB6 := Lib.hid (HBB.out.next hb6)
          clear hb6
          have HKf := Lib.hid (HB6.out.sw3s.row Y)
          go_upto_region 11 with fail
          go_step
          refine wpList_load_row rfl _ _ rfl w.heap.size rfl _ Y (0, 0) _ HB6.out.b2 under_co rfl (by rw [hS2]; exact info_co) ?_
          refine wpList_store_row rfl _ _ _ rfl (w.heap.size + 1) Y rfl rfl _ _ HB6.out.b3 (by rw [hS2]; exact info_co) (by rw [hS2]; rfl) hO2 ?_
          repeat go_step
          refine bodyPost_ret (v := .tuple #[.agg Y, .int .i64 3]) (results_row_tmp rfl _ _ (w.heap.size + 1) 45 Y (0, 0) _ (.int .i64 3) rfl rfl HKf.out.b0 under_co rfl (by rw [hS2]; exact info_co)) rfl ⟨by rw [hVn.out], HKf.out.bel⟩
        · rw [hok] at HR4
          go_upto_region 9 with fail
          go_wp2_with fail
          refine (HR4.out _).mono ?_
          rintro e w6 ⟨rfl, hb6⟩
          have HB6 := Lib.hid (HBB.out.next hb6)
          clear hb6
          --#g4
          have s0 : w6.cell? ⟨g6 + 1, 4, none⟩ = some (.int .i64 0) := HB6.out.b0.cell 4
          have s1 : w6.frozen? ⟨g6 + 1, 4, none⟩ = false := HB6.out.b0.frozen 4
          have hq : Bs w [(g6 + 1, 84, tkA z0 z1 z2 z3 z4 z5 z6 z7 z8 5), (g6, 9, Lib.cellsOf [f0, f1, f2, f3, f4, f5, f6, f7, f8, f9] N), (w.heap.size, 45, Y), (w.heap.size + 1, 45, zO .u32)] (w6.setCell ⟨g6 + 1, 4, none⟩ (.int .i64 z4)) := HB6.out.s0 4 (.int .i64 z4)
          have HQ := Lib.hid hq
          clear hq
          --#e4
          go_wp2_with fail
          go_roundw
          case rel => exact ⟨5, by omega, by first | rfl | go_num, Lib.hid ⟨fun _ => hO.out.1 (by omega), fun _ => hO.out.2.1 (by omega), fun _ => hO.out.2.2.1 (by omega), fun _ => hO.out.2.2.2.1 (by omega), fun _ => by first | exact hok | trivial, fun h => absurd h (by omega), fun h => absurd h (by omega), fun h => absurd h (by omega), fun h => absurd h (by omega)⟩, HQ.out⟩
          case measure => simp [intOf]
      | 5, _ =>
        have hW : IntKind.i64.wrap (5 + 1) = 6 := by decide +kernel
        have l0 : wr.cell? ⟨g6, 5, none⟩ = some (.string f5) := (Blk.cell HBB.out.b1 5).trans (cells_fls _ N 5 f5 rfl)
        have hix : ∀ W, (Instr.index 86 (.agg (rdrs PH PW PP)) (.int .i64 5)).run Tryz.prog W = .ok (btF 0 15) W := fun W => by rfl
        unfold btF at hix
        --#c5
        rcases hok : k5 with _ | _
        · rw [hok] at HR5
          --#d5
          have hVn : V = .tuple #[.agg Y, .int .i64 3] := by
            have h := hV2.out
            rw [hok] at h
            rw [h]
            simp
          replace hVn := Lib.hid hVn
          go_upto_region 9 with fail
          go_wp2_with fail
          refine (HR5.out _).mono ?_
          rintro e w6 ⟨rfl, hb6⟩
          have HB6 := Lib.hid (HBB.out.next hb6)
          clear hb6
          have HKf := Lib.hid (HB6.out.sw3s.row Y)
          go_upto_region 11 with fail
          go_step
          refine wpList_load_row rfl _ _ rfl w.heap.size rfl _ Y (0, 0) _ HB6.out.b2 under_co rfl (by rw [hS2]; exact info_co) ?_
          refine wpList_store_row rfl _ _ _ rfl (w.heap.size + 1) Y rfl rfl _ _ HB6.out.b3 (by rw [hS2]; exact info_co) (by rw [hS2]; rfl) hO2 ?_
          repeat go_step
          refine bodyPost_ret (v := .tuple #[.agg Y, .int .i64 3]) (results_row_tmp rfl _ _ (w.heap.size + 1) 45 Y (0, 0) _ (.int .i64 3) rfl rfl HKf.out.b0 under_co rfl (by rw [hS2]; exact info_co)) rfl ⟨by rw [hVn.out], HKf.out.bel⟩
        · rw [hok] at HR5
          go_upto_region 9 with fail
          go_wp2_with fail
          refine (HR5.out _).mono ?_
          rintro e w6 ⟨rfl, hb6⟩
          have HB6 := Lib.hid (HBB.out.next hb6)
          clear hb6
          --#g5
          have s0 : w6.cell? ⟨g6 + 1, 5, none⟩ = some (.int .i64 0) := HB6.out.b0.cell 5
          have s1 : w6.frozen? ⟨g6 + 1, 5, none⟩ = false := HB6.out.b0.frozen 5
          have hq : Bs w [(g6 + 1, 84, tkA z0 z1 z2 z3 z4 z5 z6 z7 z8 6), (g6, 9, Lib.cellsOf [f0, f1, f2, f3, f4, f5, f6, f7, f8, f9] N), (w.heap.size, 45, Y), (w.heap.size + 1, 45, zO .u32)] (w6.setCell ⟨g6 + 1, 5, none⟩ (.int .i64 z5)) := HB6.out.s0 5 (.int .i64 z5)
          have HQ := Lib.hid hq
          clear hq
          --#e5
          go_wp2_with fail
          go_roundw
          case rel => exact ⟨6, by omega, by first | rfl | go_num, Lib.hid ⟨fun _ => hO.out.1 (by omega), fun _ => hO.out.2.1 (by omega), fun _ => hO.out.2.2.1 (by omega), fun _ => hO.out.2.2.2.1 (by omega), fun _ => hO.out.2.2.2.2.1 (by omega), fun _ => by first | exact hok | trivial, fun h => absurd h (by omega), fun h => absurd h (by omega), fun h => absurd h (by omega)⟩, HQ.out⟩
          case measure => simp [intOf]
      | 6, _ =>
        have hW : IntKind.i64.wrap (6 + 1) = 7 := by decide +kernel
        have l0 : wr.cell? ⟨g6, 6, none⟩ = some (.string f6) := (Blk.cell HBB.out.b1 6).trans (cells_fls _ N 6 f6 rfl)
        have hix : ∀ W, (Instr.index 86 (.agg (rdrs PH PW PP)) (.int .i64 6)).run Tryz.prog W = .ok (nrF 0 65535) W := fun W => by rfl
        unfold nrF at hix
        --#c6
        rcases hok : k6 with _ | _
        · rw [hok] at HR6
          --#d6
          have hVn : V = .tuple #[.agg Y, .int .i64 3] := by
            have h := hV2.out
            rw [hok] at h
            rw [h]
            simp
          replace hVn := Lib.hid hVn
          go_upto_region 9 with fail
          go_wp2_with fail
          refine (HR6.out _).mono ?_
          rintro e w6 ⟨rfl, hb6⟩
          have HB6 := Lib.hid (HBB.out.next hb6)
          clear hb6
          have HKf := Lib.hid (HB6.out.sw3s.row Y)
          go_upto_region 11 with fail
          go_step
          refine wpList_load_row rfl _ _ rfl w.heap.size rfl _ Y (0, 0) _ HB6.out.b2 under_co rfl (by rw [hS2]; exact info_co) ?_
          refine wpList_store_row rfl _ _ _ rfl (w.heap.size + 1) Y rfl rfl _ _ HB6.out.b3 (by rw [hS2]; exact info_co) (by rw [hS2]; rfl) hO2 ?_
          repeat go_step
          refine bodyPost_ret (v := .tuple #[.agg Y, .int .i64 3]) (results_row_tmp rfl _ _ (w.heap.size + 1) 45 Y (0, 0) _ (.int .i64 3) rfl rfl HKf.out.b0 under_co rfl (by rw [hS2]; exact info_co)) rfl ⟨by rw [hVn.out], HKf.out.bel⟩
        · rw [hok] at HR6
          go_upto_region 9 with fail
          go_wp2_with fail
          refine (HR6.out _).mono ?_
          rintro e w6 ⟨rfl, hb6⟩
          have HB6 := Lib.hid (HBB.out.next hb6)
          clear hb6
          --#g6
          have s0 : w6.cell? ⟨g6 + 1, 6, none⟩ = some (.int .i64 0) := HB6.out.b0.cell 6
          have s1 : w6.frozen? ⟨g6 + 1, 6, none⟩ = false := HB6.out.b0.frozen 6
          have hq : Bs w [(g6 + 1, 84, tkA z0 z1 z2 z3 z4 z5 z6 z7 z8 7), (g6, 9, Lib.cellsOf [f0, f1, f2, f3, f4, f5, f6, f7, f8, f9] N), (w.heap.size, 45, Y), (w.heap.size + 1, 45, zO .u32)] (w6.setCell ⟨g6 + 1, 6, none⟩ (.int .i64 z6)) := HB6.out.s0 6 (.int .i64 z6)
          have HQ := Lib.hid hq
          clear hq
          --#e6
          go_wp2_with fail
          go_roundw
          case rel => exact ⟨7, by omega, by first | rfl | go_num, Lib.hid ⟨fun _ => hO.out.1 (by omega), fun _ => hO.out.2.1 (by omega), fun _ => hO.out.2.2.1 (by omega), fun _ => hO.out.2.2.2.1 (by omega), fun _ => hO.out.2.2.2.2.1 (by omega), fun _ => hO.out.2.2.2.2.2.1 (by omega), fun _ => by first | exact hok | trivial, fun h => absurd h (by omega), fun h => absurd h (by omega)⟩, HQ.out⟩
          case measure => simp [intOf]
      | 7, _ =>
        have hW : IntKind.i64.wrap (7 + 1) = 8 := by decide +kernel
        have l0 : wr.cell? ⟨g6, 7, none⟩ = some (.string f7) := (Blk.cell HBB.out.b1 7).trans (cells_fls _ N 7 f7 rfl)
        have hix : ∀ W, (Instr.index 86 (.agg (rdrs PH PW PP)) (.int .i64 7)).run Tryz.prog W = .ok (nrF 0 65535) W := fun W => by rfl
        unfold nrF at hix
        --#c7
        rcases hok : k7 with _ | _
        · rw [hok] at HR7
          --#d7
          have hVn : V = .tuple #[.agg Y, .int .i64 3] := by
            have h := hV2.out
            rw [hok] at h
            rw [h]
            simp
          replace hVn := Lib.hid hVn
          go_upto_region 9 with fail
          go_wp2_with fail
          refine (HR7.out _).mono ?_
          rintro e w6 ⟨rfl, hb6⟩
          have HB6 := Lib.hid (HBB.out.next hb6)
          clear hb6
          have HKf := Lib.hid (HB6.out.sw3s.row Y)
          go_upto_region 11 with fail
          go_step
          refine wpList_load_row rfl _ _ rfl w.heap.size rfl _ Y (0, 0) _ HB6.out.b2 under_co rfl (by rw [hS2]; exact info_co) ?_
          refine wpList_store_row rfl _ _ _ rfl (w.heap.size + 1) Y rfl rfl _ _ HB6.out.b3 (by rw [hS2]; exact info_co) (by rw [hS2]; rfl) hO2 ?_
          repeat go_step
          refine bodyPost_ret (v := .tuple #[.agg Y, .int .i64 3]) (results_row_tmp rfl _ _ (w.heap.size + 1) 45 Y (0, 0) _ (.int .i64 3) rfl rfl HKf.out.b0 under_co rfl (by rw [hS2]; exact info_co)) rfl ⟨by rw [hVn.out], HKf.out.bel⟩
        · rw [hok] at HR7
          go_upto_region 9 with fail
          go_wp2_with fail
          refine (HR7.out _).mono ?_
          rintro e w6 ⟨rfl, hb6⟩
          have HB6 := Lib.hid (HBB.out.next hb6)
          clear hb6
          --#g7
          have s0 : w6.cell? ⟨g6 + 1, 7, none⟩ = some (.int .i64 0) := HB6.out.b0.cell 7
          have s1 : w6.frozen? ⟨g6 + 1, 7, none⟩ = false := HB6.out.b0.frozen 7
          have hq : Bs w [(g6 + 1, 84, tkA z0 z1 z2 z3 z4 z5 z6 z7 z8 8), (g6, 9, Lib.cellsOf [f0, f1, f2, f3, f4, f5, f6, f7, f8, f9] N), (w.heap.size, 45, Y), (w.heap.size + 1, 45, zO .u32)] (w6.setCell ⟨g6 + 1, 7, none⟩ (.int .i64 z7)) := HB6.out.s0 7 (.int .i64 z7)
          have HQ := Lib.hid hq
          clear hq
          --#e7
          go_wp2_with fail
          go_roundw
          case rel => exact ⟨8, by omega, by first | rfl | go_num, Lib.hid ⟨fun _ => hO.out.1 (by omega), fun _ => hO.out.2.1 (by omega), fun _ => hO.out.2.2.1 (by omega), fun _ => hO.out.2.2.2.1 (by omega), fun _ => hO.out.2.2.2.2.1 (by omega), fun _ => hO.out.2.2.2.2.2.1 (by omega), fun _ => hO.out.2.2.2.2.2.2.1 (by omega), fun _ => by first | exact hok | trivial, fun h => absurd h (by omega)⟩, HQ.out⟩
          case measure => simp [intOf]
      | 8, _ =>
        have hW : IntKind.i64.wrap (8 + 1) = 9 := by decide +kernel
        have l0 : wr.cell? ⟨g6, 8, none⟩ = some (.string f8) := (Blk.cell HBB.out.b1 8).trans (cells_fls _ N 8 f8 rfl)
        have hix : ∀ W, (Instr.index 86 (.agg (rdrs PH PW PP)) (.int .i64 8)).run Tryz.prog W = .ok (btF 0 15) W := fun W => by rfl
        unfold btF at hix
        --#c8
        rcases hok : k8 with _ | _
        · rw [hok] at HR8
          --#d8
          have hVn : V = .tuple #[.agg Y, .int .i64 3] := by
            have h := hV2.out
            rw [hok] at h
            rw [h]
            simp
          replace hVn := Lib.hid hVn
          go_upto_region 9 with fail
          go_wp2_with fail
          refine (HR8.out _).mono ?_
          rintro e w6 ⟨rfl, hb6⟩
          have HB6 := Lib.hid (HBB.out.next hb6)
          clear hb6
          have HKf := Lib.hid (HB6.out.sw3s.row Y)
          go_upto_region 11 with fail
          go_step
          refine wpList_load_row rfl _ _ rfl w.heap.size rfl _ Y (0, 0) _ HB6.out.b2 under_co rfl (by rw [hS2]; exact info_co) ?_
          refine wpList_store_row rfl _ _ _ rfl (w.heap.size + 1) Y rfl rfl _ _ HB6.out.b3 (by rw [hS2]; exact info_co) (by rw [hS2]; rfl) hO2 ?_
          repeat go_step
          refine bodyPost_ret (v := .tuple #[.agg Y, .int .i64 3]) (results_row_tmp rfl _ _ (w.heap.size + 1) 45 Y (0, 0) _ (.int .i64 3) rfl rfl HKf.out.b0 under_co rfl (by rw [hS2]; exact info_co)) rfl ⟨by rw [hVn.out], HKf.out.bel⟩
        · rw [hok] at HR8
          go_upto_region 9 with fail
          go_wp2_with fail
          refine (HR8.out _).mono ?_
          rintro e w6 ⟨rfl, hb6⟩
          have HB6 := Lib.hid (HBB.out.next hb6)
          clear hb6
          --#g8
          have s0 : w6.cell? ⟨g6 + 1, 8, none⟩ = some (.int .i64 0) := HB6.out.b0.cell 8
          have s1 : w6.frozen? ⟨g6 + 1, 8, none⟩ = false := HB6.out.b0.frozen 8
          have hq : Bs w [(g6 + 1, 84, tkA z0 z1 z2 z3 z4 z5 z6 z7 z8 9), (g6, 9, Lib.cellsOf [f0, f1, f2, f3, f4, f5, f6, f7, f8, f9] N), (w.heap.size, 45, Y), (w.heap.size + 1, 45, zO .u32)] (w6.setCell ⟨g6 + 1, 8, none⟩ (.int .i64 z8)) := HB6.out.s0 8 (.int .i64 z8)
          have HQ := Lib.hid hq
          clear hq
          --#e8
          go_wp2_with fail
          go_roundw
          case rel => exact ⟨9, by omega, by first | rfl | go_num, Lib.hid ⟨fun _ => hO.out.1 (by omega), fun _ => hO.out.2.1 (by omega), fun _ => hO.out.2.2.1 (by omega), fun _ => hO.out.2.2.2.1 (by omega), fun _ => hO.out.2.2.2.2.1 (by omega), fun _ => hO.out.2.2.2.2.2.1 (by omega), fun _ => hO.out.2.2.2.2.2.2.1 (by omega), fun _ => hO.out.2.2.2.2.2.2.2.1 (by omega), fun _ => by first | exact hok | trivial⟩, HQ.out⟩
          case measure => simp [intOf]
    · obtain rfl : k = 9 := by omega
      have e0 := hO.out.1 (by omega)
      have e1 := hO.out.2.1 (by omega)
      have e2 := hO.out.2.2.1 (by omega)
      have e3 := hO.out.2.2.2.1 (by omega)
      have e4 := hO.out.2.2.2.2.1 (by omega)
      have e5 := hO.out.2.2.2.2.2.1 (by omega)
      have e6 := hO.out.2.2.2.2.2.2.1 (by omega)
      have e7 := hO.out.2.2.2.2.2.2.2.1 (by omega)
      have e8 := hO.out.2.2.2.2.2.2.2.2 (by omega)
      --#f
      have hpl := HPL.out ⟨e0, e1, e2, e3, e4, e5, e6, e7, e8⟩
      simp only at hpl
      obtain ⟨⟨zc, en, hz⟩, HPl⟩ := hpl
      have hVn : V = .tuple #[.agg (coC .u32 zc), .int .i64 en] := by
        have h := hV2.out
        simp only [e0, e1, e2, e3, e4, e5, e6, e7, e8, Bool.and_self, if_true] at h
        rw [h, hz]
      rw [hz] at HPl
      have hSz := coS .u32 zc; have hOz := co_one .u32 zc
      generalize coC .u32 zc = Z at *
      have HPc := Lib.hid HPl
      clear HPl hz HPL
      replace hVn := Lib.hid hVn
      have l0 : wr.cell? ⟨g6, 9, none⟩ = some (.string f9) := (Blk.cell HBB.out.b1 9).trans (cells_fls _ N 9 f9 rfl)
      --#h
      go_upto_region 14 with fail
      have n0 : g6 + 1 ≠ w.heap.size + 1 := (List.pairwise_cons.1 HBB.out.2.1).1 (w.heap.size + 1, 45, zO .u32) (by simp)
      have n1 : g6 ≠ w.heap.size + 1 := (List.pairwise_cons.1 HBB.out.tl.2.1).1 (w.heap.size + 1, 45, zO .u32) (by simp)
      have HSW := Lib.hid HBB.out.sw3s
      have HX0 := Lib.hid (fun w' (h : Only [w.heap.size + 1] wr w') => h.blk HBB.out.b2 (by simp))
      have HX1 := Lib.hid (fun w' (h : Only [w.heap.size + 1] wr w') => h.blk HBB.out.b0 (fun h' => n0 (List.mem_singleton.1 h')))
      have HX2 : Hid (∀ w', Only [w.heap.size + 1] wr w' → w'.cell? ⟨g6, 9, none⟩ = some (.string f9)) := Lib.hid (fun w' h => (Blk.cell (h.blk HBB.out.b1 (fun h' => n1 (List.mem_singleton.1 h'))) 9).trans (cells_fls _ N 9 f9 rfl))
      have HBw := Lib.hid (fun w' (h : Only [w.heap.size + 1] wr w') => HBB.out.bel.trans (h.below HBB.out.bel.size (fun k hk => by rw [List.mem_singleton.1 hk]; omega)))
      clear l0 n0 n1
      --#i
      refine wp_region_mix_lit (by kernel_rfl) [(5, .call (.tuple #[.agg Z, .int .i64 en])), (8, .store (w.heap.size + 1) 45 (zO .u32) (fun _ => Z))] (by kernel_rfl) (by kernel_rfl) (by kernel_rfl) (by rfl) (by simp [apartK] <;> omega) (by simp [startK]; exact HBB.out.b3) (by simp [stabK]) (⟨fun _ => undef, by simp [okK]⟩) (fun β hβ => ?_)
      refine lex_val (v := .agg Y) rfl rfl (fun w' hf => exec_load_row _ (.tmp 2) rfl rfl (HX0.out w' hf.only) under_co rfl (by rw [hS2]; exact info_co)) ?_
      try simp only [Act.put, List.setIfInBounds_toArray, List.set_cons_zero, List.set_cons_succ]
      refine lex_val (v := .agg (tkA z0 z1 z2 z3 z4 z5 z6 z7 z8 9)) rfl rfl (fun w' hf => exec_load_row _ (.tmp 7) rfl rfl (HX1.out w' hf.only) Tryz.underlying84 rfl (by kernel_rfl)) ?_
      try simp only [Act.put, List.setIfInBounds_toArray, List.set_cons_zero, List.set_cons_succ]
      refine lex_val (v := ?_) rfl rfl (fun w' hf => ?_) ?_
      rotate_left
      · have c9 := HX2.out w' hf.only
        clear hf
        go_simp
        try rfl
      try simp only [Act.put, List.setIfInBounds_toArray, List.set_cons_zero, List.set_cons_succ]
      refine lex_val (v := ?_) rfl rfl (fun w' hf => ?_) ?_
      rotate_left
      · have c9 := HX2.out w' hf.only
        clear hf
        go_simp
        try rfl
      try simp only [Act.put, List.setIfInBounds_toArray, List.set_cons_zero, List.set_cons_succ]
      refine lex_val (v := ?_) rfl rfl (fun w' hf => ?_) ?_
      rotate_left
      · have c9 := HX2.out w' hf.only
        clear hf
        go_simp
        try rfl
      try simp only [Act.put, List.setIfInBounds_toArray, List.set_cons_zero, List.set_cons_succ]
      --#j
      refine lex_call (f := 36) (args := ?_) rfl rfl (fun w' hf => ?_) (fun w' hf => ?_) ?_
      rotate_left
      · go_simp
        try rfl
      · exact HPc.out w' (HF.out.next (HBw.out w' hf.only)) (HBl.out.next (HBw.out w' hf.only))
      try simp only [Act.put, List.setIfInBounds_toArray, List.set_cons_zero, List.set_cons_succ]
      --#l
      refine lex_val (v := ?_) rfl rfl (fun w' hf => ?_) ?_
      rotate_left
      · have c9 := HX2.out w' hf.only
        clear hf
        go_simp
        try rfl
      try simp only [Act.put, List.setIfInBounds_toArray, List.set_cons_zero, List.set_cons_succ]
      refine lex_val (v := ?_) rfl rfl (fun w' hf => ?_) ?_
      rotate_left
      · have c9 := HX2.out w' hf.only
        clear hf
        go_simp
        try rfl
      try simp only [Act.put, List.setIfInBounds_toArray, List.set_cons_zero, List.set_cons_succ]
      refine lex_store rfl rfl (fun w' hf hB => ⟨_, exec_store_row 45 (.tmp 4) (.tmp 48) rfl rfl rfl hB (by rw [hSz]; exact info_co) (by rw [hSz]; rfl) hOz, row_repl hB _⟩) ?_
      try simp only [Act.put]
      refine lex_val (v := ?_) rfl rfl (fun w' hf => ?_) ?_
      rotate_left
      · have c9 := HX2.out w' hf.only
        clear hf
        go_simp
        try rfl
      try simp only [Act.put, List.setIfInBounds_toArray, List.set_cons_zero, List.set_cons_succ]
      --#m
      refine lex_nil fun w1 he => ?_
      have hb9 : Blk w1 (w.heap.size + 1) 45 Z := he.facts 8
      have HKf := Lib.hid (Bs.mix HSW.out he.only hb9)
      clear he hb9
      repeat go_step
      --#n
      refine bodyPost_ret (v := .tuple #[.agg Z, .int .i64 en]) (results_row_tmp rfl _ _ (w.heap.size + 1) 45 Z (0, 0) _ (.int .i64 en) rfl rfl HKf.out.b0 under_co rfl (by rw [hSz]; exact info_co)) rfl ⟨by rw [hVn.out], HKf.out.bel⟩
end Go.Proofs.YtfnamfkjbkhgeaaGreatDoor

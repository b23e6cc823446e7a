/-
  All of it, brought back by the program.
-/
import Derived.Test.YtfnamfkjbkhgeaaGreatDoorStaL
import Derived.Test.YtfnamfkjbkhgeaaGreatDoorFrameP
import Derived.Deep.CutRange
import Derived.Deep.DeepCutAuto
namespace Go.Proofs.YtfnamfkjbkhgeaaGreatDoor

open Go Go.RowKit

theorem results_row_tmp {P : Program} {fn : Func} {p q : Tmp} {ty : TypeId} (h : fn.results = #[.cell p ty, .tmp q]) (tmps : Array Value) (w : World) (g : Nat) (t : TypeId) (cs : Array Value) (fr : Nat × Nat) (d : TypeDesc)
    (v : Value) (hp : tmps.getD p undef = .pointer (some ⟨g, 0, none⟩)) (hq : tmps.getD q undef = v) (hg : w.heap[g]? = some (.cells cs t fr))
    (hu : P.underlying ty = some d) (hd : (match d with | .struct _ | .array _ _ => true | _ => false) = true) (hi : (P.info? ty).map (·.size) = some cs.size) :
    (results fn tmps).run P w = .ok (.tuple #[.agg cs, v]) w := by
  subst hq
  have hp' : tmps[p]?.getD undef = .pointer (some ⟨g, 0, none⟩) := by simpa using hp
  simp [results, h, hp', asAddr, run_loadVar_row w g t ty cs fr d hg hu hd hi]
theorem OInts.blk12 {w : World} {base : Nat} {A : Option Addr} {c : Nat} {ns : List Int} (h : OInts w base (.slice A ns.length c) ns) (h0 : 0 < ns.length) : ∃ (g : Nat) (cur : Array Value), A = some ⟨g, 0, none⟩ ∧ base ≤ g ∧ Blk w g 3 cur ∧ ∀ (k : Nat) (n : Int), ns[k]? = some n → cur[k]? = some (Value.int .i64 n) := by
  have hr := h.reads
  rcases h.2 with ⟨e, hn⟩ | ⟨g, cap, cur, e, hg, hh, _⟩
  · omega
  · simp only [Value.slice.injEq] at e
    obtain ⟨rfl, _, _⟩ := e
    refine ⟨g, cur, rfl, hg, hh, fun k n hk => ?_⟩
    have hk' : k < ns.length := by
      rcases Nat.lt_or_ge k ns.length with h' | h'
      · exact h'
      · rw [List.getElem?_eq_none h'] at hk; cases hk
    obtain ⟨ad, e2, _, hc⟩ := hr.at_ hk'
    simp only [Option.some.injEq] at e2
    subst e2
    have hc2 : w.cell? ⟨g, k, none⟩ = some (.int .i64 ns[k]) := by
      have e3 : (⟨g, 0, none⟩ : Addr).add k = ⟨g, k, none⟩ := by unfold Addr.add; split <;> simp_all
      rw [← e3]; exact hc
    rw [List.getElem?_eq_getElem hk'] at hk
    rw [← Option.some.inj hk, ← hc2]
    exact (Blk.cell hh k).symm
theorem Bs.drewB {w W : World} {l : List (Nat × TypeId × Array Value)} (h : Bs w l W) : Bs w l W.drew :=
  ⟨h.1, h.2.1, ⟨h.2.2.os, h.2.2.tape, h.2.2.output, h.2.2.size, h.2.2.block⟩⟩
theorem rints_cur {W : World} {g : Nat} {T : TypeId} {cur : Array Value} {ns : List Int} (hB : Blk W g T cur) (hc : ∀ (k : Nat) (z : Int), ns[k]? = some z → cur[k]? = some (Value.int .i64 z)) : RInts W (some ⟨g, 0, none⟩) ns := by
  have h := rints_in (W := W) (a := ⟨g, 0, none⟩) (len := ns.length) (zs := ns) (Nat.le_refl _) hB.lt (fun k hk => by
    have e3 : (⟨g, 0, none⟩ : Addr).add k = ⟨g, k, none⟩ := by unfold Addr.add; split <;> simp_all
    rw [e3, Blk.cell hB k, hc k ns[k] (List.getElem?_eq_getElem hk), List.getD_eq_getElem?_getD, List.getElem?_eq_getElem hk]
    rfl)
  rwa [List.take_length] at h
theorem rints_of12 {W : World} {g : Nat} {T : TypeId} {ns : List Int} (hB : Blk W g T (ns.map (Value.int .i64)).toArray) : RInts W (some ⟨g, 0, none⟩) ns :=
  rints_cur hB (fun k z hk => by rw [List.getElem?_toArray, List.getElem?_map, hk]; rfl)
/-- Are there twelve numbers that can be told? -/
def okL (y : Co) (ns : List Int) (er : Int) : Bool := match ns with
  | [n0, n1, n2, n3, n4, n5, n6, n7, n8, n9, n10, n11] => (er == 0) && okN y n0 n1 n2 n3 n4 n5 n6 n7 n8 n9 n10 n11
  | _ => false
def thenL (y : Co) (ns : List Int) : Co := match ns with
  | [n0, n1, n2, n3, n4, n5, n6, n7, n8, n9, n10, n11] => thenP y n0 n1 n2 n3 n4 n5 n6 n7 n8 n9 n10 n11
  | _ => y
theorem okL_bad (y : Co) (ns : List Int) (er : Int) (h : er ≠ 0 ∨ ns.length ≠ 12) : okL y ns er = false := by
  unfold okL
  split
  · rcases h with h | h
    · simp [h]
    · exact absurd rfl h
  · rfl
set_option maxRecDepth 100000 in
set_option maxHeartbeats 8000000 in
theorem restore_any {x : Co} {H W it il ib ir : Int} (h : FrOk x.f H W it il ib ir) (hr0 : 0 ≤ x.K.rd) (hr1 : x.K.rd ≤ 255) (hm : x.m < 2 ^ 32) (s : ByteArray) (hs : s.size ≤ maxLen) (w : World) (ht : Tab w) (hfc : Faces w) :
    Calls Tryz.prog 15 #[coV .u32 x, .string s] w fun e w' => e = .returned (.tuple #[coV .u32 (if okL (clnP x H W it il ib ir) (parseV s.data.toList).1 (parseV s.data.toList).2 = true then thenL (clnP x H W it il ib ir) (parseV s.data.toList).1 else clnP x H W it il ib ir), .int .i64 (if okL (clnP x H W it il ib ir) (parseV s.data.toList).1 (parseV s.data.toList).2 = true then 0 else 3)]) ∧ Below w.heap.size w w' := by
  have HCl := Lib.hid (fun V t f => cleanC_any h hr0 hr1 hm V t f)
  have hk := cl_ok h; have hk2 := cl_ok2 h
  have HT := Lib.hid ht; have HF := Lib.hid hfc
  have HPr := Lib.hid (fun V => parse_all s hs V)
  have hpr := parseV_range s.data.toList
  generalize (parseV s.data.toList).1 = ns at *
  generalize (parseV s.data.toList).2 = er at *
  obtain ⟨y, hy⟩ : ∃ y, y = clnP x H W it il ib ir := ⟨_, rfl⟩
  rw [← hy] at HCl hk hk2 ⊢
  clear h hr0 hr1 hm ht hfc hy hs
  have hS1 := coS .u32 x; have hS2 := coS .u32 y; have hO2 := co_one .u32 y
  by_cases hbad : er ≠ 0 ∨ ns.length ≠ 12
  · rw [okL_bad y ns er hbad]
    simp only [Bool.false_eq_true, if_false]
    unfold coV at *
    generalize coC .u32 x = X at *
    generalize coC .u32 y = Y at *
    have HS := Lib.hid (Bs.start2' w 45 45 X (zO .u32))
    have hcs : (er = 3 ∧ True) ∨ (er = 0 ∧ ((ns.length : Int) != 12) = true) := by
      rcases hpr.2.2 with h | h
      · refine .inr ⟨h, ?_⟩
        have : ns.length ≠ 12 := by rcases hbad with g | g; exact absurd h g; exact g
        simp; omega
      · exact .inl ⟨h, trivial⟩
    clear hbad hpr hk hk2
    rcases hcs with ⟨rfl, _⟩ | ⟨rfl, hl⟩
    all_goals
      go_enter Tryz.func15, Tryz.ntmps15
      go_wp2_with (first | (refine wpList_load_row rfl _ _ rfl w.heap.size rfl _ X (0, 0) _ HS.out.b0 under_co rfl (by rw [hS1]; exact info_co) ?_))
      refine (HCl.out _ (HT.out.next HS.out.bel) (HF.out.next HS.out.bel)).mono ?_
      rintro e w1 ⟨rfl, hb⟩
      have HK1 := Lib.hid (HS.out.next hb)
      clear hb
      go_upto_region 2 with (refine wpList_store_row rfl _ _ _ rfl w.heap.size Y rfl rfl _ _ HK1.out.b0 (by rw [hS2]; exact info_co) (by rw [hS1, hS2]) hO2 ?_)
      refine world_gen (fun V => Bs w [(w.heap.size, 45, Y), (w.heap.size + 1, 45, zO .u32)] V) (HK1.out.row Y) ?_
      intro w2 HV0
      replace HV0 := Lib.hid HV0
      clear HK1
      go_wp2_with fail
      refine (HPr.out _).mono ?_
      rintro e w3 ⟨⟨A, c, rfl, hown⟩, hb⟩
      have HK2 := Lib.hid (HV0.out.next hb)
      clear hb HV0 hown
      have HK3 := Lib.hid (HK2.out.sw1.row Y)
      --#b1
      go_upto_region 4 with fail
      go_step
      refine wpList_load_row rfl _ _ rfl w.heap.size rfl _ Y (0, 0) _ HK2.out.b0 under_co rfl (by rw [hS2]; exact info_co) ?_
      refine wpList_store_row rfl _ _ _ rfl (w.heap.size + 1) Y rfl rfl _ _ HK2.out.b1 (by rw [hS2]; exact info_co) (by rw [hS2]; rfl) hO2 ?_
      --#b2
      repeat go_step
      --#b3
      refine bodyPost_ret (v := .tuple #[.agg Y, .int .i64 3]) (results_row_tmp rfl _ _ (w.heap.size + 1) 45 Y (0, 0) _ (.int .i64 3) rfl rfl HK3.out.b0 under_co rfl (by rw [hS2]; exact info_co)) rfl ⟨rfl, HK3.out.bel⟩
  · have her : er = 0 := by
      rcases hpr.2.2 with g | g
      · exact g
      · exact absurd (.inl (by omega)) hbad
    have hlen : ns.length = 12 := by
      by_cases g : ns.length = 12
      · exact g
      · exact absurd (.inr g) hbad
    subst her
    obtain ⟨n0, n1, n2, n3, n4, n5, n6, n7, n8, n9, n10, n11, rfl⟩ : ∃ n0 n1 n2 n3 n4 n5 n6 n7 n8 n9 n10 n11, ns = [n0, n1, n2, n3, n4, n5, n6, n7, n8, n9, n10, n11] := by
      match ns, hlen with
      | [n0, n1, n2, n3, n4, n5, n6, n7, n8, n9, n10, n11], _ => exact ⟨n0, n1, n2, n3, n4, n5, n6, n7, n8, n9, n10, n11, rfl⟩
    have hin : ∀ n ∈ [n0, n1, n2, n3, n4, n5, n6, n7, n8, n9, n10, n11], 0 ≤ n ∧ n ≤ 65535 := hpr.1
    clear hbad hpr hlen
    have hok : okL y [n0, n1, n2, n3, n4, n5, n6, n7, n8, n9, n10, n11] 0 = okN y n0 n1 n2 n3 n4 n5 n6 n7 n8 n9 n10 n11 := by unfold okL; simp
    have hth : thenL y [n0, n1, n2, n3, n4, n5, n6, n7, n8, n9, n10, n11] = thenP y n0 n1 n2 n3 n4 n5 n6 n7 n8 n9 n10 n11 := rfl
    rw [hok, hth]
    obtain ⟨H2, W2, it2, il2, ib2, ir2, hfr⟩ := fr_ok (thenP y n0 n1 n2 n3 n4 n5 n6 n7 n8 n9 n10 n11).f (by have := hk.h2; exact this.2) (by have := hk.h3; exact this.2)
    have hn2 := hin n2 (by simp); have hn3 := hin n3 (by simp)
    have hmm : (thenP y n0 n1 n2 n3 n4 n5 n6 n7 n8 n9 n10 n11).m < 2 ^ 32 := by show (n2 * 4096 + n3).toNat < 2 ^ 32; omega
    have hrd := hk.rd
    have HCl2 := Lib.hid (fun V t f => cleanC_any (x := thenP y n0 n1 n2 n3 n4 n5 n6 n7 n8 n9 n10 n11) hfr hrd.1 (by show y.K.rd ≤ 255; omega) hmm V t f)
    have HNu := Lib.hid (fun V => numbers_any _ (cl_ok hfr).m V)
    have hiff := rest_iff y hk hk2 n0 n1 n2 n3 n4 n5 n6 n7 n8 n9 n10 n11 hin hfr
    have hsame := rest_same y hk hk2 n0 n1 n2 n3 n4 n5 n6 n7 n8 n9 n10 n11 hin hfr
    have HEq := Lib.hid (fun A B d V r1 r2 => equalS_any A B 12 d (nbrP (clnP (thenP y n0 n1 n2 n3 n4 n5 n6 n7 n8 n9 n10 n11) H2 W2 it2 il2 ib2 ir2)) [n0, n1, n2, n3, n4, n5, n6, n7, n8, n9, n10, n11] (by show 12 ≤ maxLen; unfold maxLen; omega) (by show 12 ≤ maxLen; unfold maxLen; omega) V r1 r2)
    --#g1
    have hwu : IntKind.u32.wrap (n2 * 4096 + n3) = (((n2 * 4096 + n3).toNat : Nat) : Int) := by
      have := wrap_bv32 (BitVec.ofNat 32 (n2 * 4096 + n3).toNat)
      rw [bv_eq (by omega), show (((n2 * 4096 + n3).toNat : Nat) : Int) = n2 * 4096 + n3 from by omega] at this
      rw [this]; omega
    have w1 : IntKind.i64.wrap (n2 * 4096) = n2 * 4096 := IntWalk.i64_in _ (by omega)
    have w2 : IntKind.i64.wrap (n2 * 4096 + n3) = n2 * 4096 + n3 := IntWalk.i64_in _ (by omega)
    obtain ⟨z, hz⟩ : ∃ z, z = clnP (thenP y n0 n1 n2 n3 n4 n5 n6 n7 n8 n9 n10 n11) H2 W2 it2 il2 ib2 ir2 := ⟨_, rfl⟩
    rw [← hz] at HCl2 HNu hiff hsame HEq
    have hzl : (nbrP z).length = 12 := rfl
    rw [hzl] at HEq
    rw [hiff] at HEq
    have hTv : coC .u32 (thenP y n0 n1 n2 n3 n4 n5 n6 n7 n8 n9 n10 n11) = #[.int .i64 y.r, .int .i64 y.c, .int .u8 y.K.rd, .bool y.K.kp, .bool y.wp, .bool (n11 == 1), .int .i64 y.K.a, .int .i64 y.K.b, .int .i64 y.K.c, .int .i64 y.K.d, .int .i64 y.K.l, .int .i64 y.K.r, .int .i64 y.K.s, .int .i64 y.f.pt, .int .i64 y.f.pl, .int .i64 y.f.pb, .int .i64 y.f.pr, .int .i64 n7, .int .i64 n8, .int .i64 n9, .int .i64 n10, .int .u32 ((n2 * 4096 + n3).toNat : Nat), .int .i64 n0, .bool (n1 == 1), .bool (n4 == 1), .int .i64 n5, .bool (n6 == 1), .int .i64 y.pg, .int .i64 y.ps] := rfl
    have hS3 := coS .u32 z; have hO3 := co_one .u32 z
    obtain ⟨okb, hokb⟩ : ∃ okb, okb = okN y n0 n1 n2 n3 n4 n5 n6 n7 n8 n9 n10 n11 := ⟨_, rfl⟩
    rw [← hokb] at HEq hsame ⊢
    have hfin : okb = true → coC .u32 z = coC .u32 (thenP y n0 n1 n2 n3 n4 n5 n6 n7 n8 n9 n10 n11) := fun h => by rw [hsame h]
    clear hz hok hth hiff hsame hfr hmm hrd hin hk hk2 hokb
    unfold coV at *
    replace hfin := Lib.hid hfin
    rw [hTv] at HCl2
    clear hTv
    generalize (((n2 * 4096 + n3).toNat : Nat) : Int) = mq at *
    generalize coC .u32 x = X at *
    generalize coC .u32 z = Z at *
    unfold a12 at HNu
    generalize nbrP z = nz at *
    have hnzl : nz.length = 12 := hzl
    obtain ⟨NZ, hNZ⟩ : ∃ NZ, NZ = (nz.map (Value.int .i64)).toArray := ⟨_, rfl⟩
    have hnz12 : NZ.size = 12 := by rw [hNZ]; simp [hnzl]
    have hnz1 : NZ.all (·.oneCell') = true := by
      rw [hNZ, Array.all_eq_true_iff_forall_mem]
      intro v hv
      simp only [List.mem_toArray] at hv
      exact ints_one _ v hv
    rw [← hNZ] at HNu
    have hnzv := Lib.hid hNZ
    clear hNZ hzl
    obtain ⟨R, hR⟩ : ∃ R, R = Value.tuple #[.agg (coC .u32 (if okb = true then thenP y n0 n1 n2 n3 n4 n5 n6 n7 n8 n9 n10 n11 else y)), .int .i64 (if okb = true then 0 else 3)] := ⟨_, rfl⟩
    rw [← hR]
    replace hR := Lib.hid hR
    obtain ⟨Y, hY⟩ : ∃ Y, Y = coC .u32 y := ⟨_, rfl⟩
    have hYL : Y = #[.int .i64 y.r, .int .i64 y.c, .int .u8 y.K.rd, .bool y.K.kp, .bool y.wp, .bool y.K.og, .int .i64 y.K.a, .int .i64 y.K.b, .int .i64 y.K.c, .int .i64 y.K.d, .int .i64 y.K.l, .int .i64 y.K.r, .int .i64 y.K.s, .int .i64 y.f.pt, .int .i64 y.f.pl, .int .i64 y.f.pb, .int .i64 y.f.pr, .int .i64 y.f.mt, .int .i64 y.f.ml, .int .i64 y.f.mb, .int .i64 y.f.mr, .int .u32 y.m, .int .i64 y.lv, .bool y.eg, .bool y.st, .int .i64 y.su, .bool y.bl, .int .i64 y.pg, .int .i64 y.ps] := hY
    rw [← hY] at HCl hS2 hO2
    replace hYL := Lib.hid hYL
    clear hY
    have HS := Lib.hid (Bs.start2' w 45 45 X (zO .u32))
    go_enter Tryz.func15, Tryz.ntmps15
    go_wp2_with (first | (refine wpList_load_row rfl _ _ rfl w.heap.size rfl _ X (0, 0) _ HS.out.b0 under_co rfl (by rw [hS1]; exact info_co) ?_))
    refine (HCl.out _ (HT.out.next HS.out.bel) (HF.out.next HS.out.bel)).mono ?_
    rintro e w1 ⟨rfl, hb⟩
    have HK1 := Lib.hid (HS.out.next hb)
    clear hb
    go_upto_region 2 with (refine wpList_store_row rfl _ _ _ rfl w.heap.size Y rfl rfl _ _ HK1.out.b0 (by rw [hS2]; exact info_co) (by rw [hS1, hS2]) hO2 ?_)
    refine world_gen (fun V => Bs w [(w.heap.size, 45, Y), (w.heap.size + 1, 45, zO .u32)] V) (HK1.out.row Y) ?_
    intro w2 HV0
    replace HV0 := Lib.hid HV0
    clear HK1 HS HCl
    go_wp2_with fail
    refine (HPr.out _).mono ?_
    rintro e w3 ⟨⟨A, c, rfl, hown⟩, hb⟩
    obtain ⟨g, cur, rfl, hge, hgB, hcur⟩ := hown.blk12 (by simp)
    have HK2 := Lib.hid (HV0.out.made ⟨hb.os, hb.tape, hb.output, hb.size, fun k hk _ => hb.block k hk⟩ hge hgB)
    clear hb hge hgB hown HPr HV0
    replace hcur := Lib.hid hcur
    have hcur2 := hcur
    --#g3
    go_upto_region 6 with (first | (refine wpList_load_row rfl _ _ rfl w.heap.size rfl _ Y (0, 0) _ HK2.out.b1 under_co rfl (by rw [hS2]; exact info_co) ?_) | (refine wpList_store_row rfl _ _ _ rfl w3.heap.size Y rfl rfl _ _ (Blk.new w3 _ _) (by rw [hS2]; exact info_co) (by rw [hS2]; rfl) hO2 ?_))
    --#g4
    have HK3 := Lib.hid (HK2.out.alloc 45 Y)
    refine world_gen (fun V => Bs w [(w3.heap.size, 45, Y), (g, 3, cur), (w.heap.size, 45, Y), (w.heap.size + 1, 45, zO .u32)] V) (by rw [World.setRow_alloc_new]; exact HK3.out) ?_
    intro V1 HV1
    generalize w3.heap.size = b3 at *
    replace HV1 : Hid (Bs w [(b3, 45, #[.int .i64 y.r, .int .i64 y.c, .int .u8 y.K.rd, .bool y.K.kp, .bool y.wp, .bool y.K.og, .int .i64 y.K.a, .int .i64 y.K.b, .int .i64 y.K.c, .int .i64 y.K.d, .int .i64 y.K.l, .int .i64 y.K.r, .int .i64 y.K.s, .int .i64 y.f.pt, .int .i64 y.f.pl, .int .i64 y.f.pb, .int .i64 y.f.pr, .int .i64 y.f.mt, .int .i64 y.f.ml, .int .i64 y.f.mb, .int .i64 y.f.mr, .int .u32 y.m, .int .i64 y.lv, .bool y.eg, .bool y.st, .int .i64 y.su, .bool y.bl, .int .i64 y.pg, .int .i64 y.ps]), (g, 3, cur), (w.heap.size, 45, Y), (w.heap.size + 1, 45, zO .u32)] (V1)) := Lib.hid (by rw [← hYL.out]; exact HV1)
    clear HK2 HK3
    obtain ⟨r, c, wp, ⟨rd, kp, og, a, b, cc, d, l, rr, s⟩, ⟨pt, pl, pb, pr, mt, ml, mb, mr⟩, m, lv, eg, st, su, bl, pg, ps⟩ := y
    simp only at *
    have l0 : V1.cell? ⟨g, 0, none⟩ = some (.int .i64 n0) := (Blk.cell HV1.out.b1 0).trans (hcur.out 0 n0 rfl)
    have l1 : V1.cell? ⟨g, 1, none⟩ = some (.int .i64 n1) := (Blk.cell HV1.out.b1 1).trans (hcur.out 1 n1 rfl)
    have l2 : V1.cell? ⟨g, 2, none⟩ = some (.int .i64 n2) := (Blk.cell HV1.out.b1 2).trans (hcur.out 2 n2 rfl)
    have l3 : V1.cell? ⟨g, 3, none⟩ = some (.int .i64 n3) := (Blk.cell HV1.out.b1 3).trans (hcur.out 3 n3 rfl)
    have l4 : V1.cell? ⟨g, 4, none⟩ = some (.int .i64 n4) := (Blk.cell HV1.out.b1 4).trans (hcur.out 4 n4 rfl)
    have l5 : V1.cell? ⟨g, 5, none⟩ = some (.int .i64 n5) := (Blk.cell HV1.out.b1 5).trans (hcur.out 5 n5 rfl)
    have l6 : V1.cell? ⟨g, 6, none⟩ = some (.int .i64 n6) := (Blk.cell HV1.out.b1 6).trans (hcur.out 6 n6 rfl)
    have l7 : V1.cell? ⟨g, 7, none⟩ = some (.int .i64 n7) := (Blk.cell HV1.out.b1 7).trans (hcur.out 7 n7 rfl)
    have l8 : V1.cell? ⟨g, 8, none⟩ = some (.int .i64 n8) := (Blk.cell HV1.out.b1 8).trans (hcur.out 8 n8 rfl)
    have l9 : V1.cell? ⟨g, 9, none⟩ = some (.int .i64 n9) := (Blk.cell HV1.out.b1 9).trans (hcur.out 9 n9 rfl)
    have l10 : V1.cell? ⟨g, 10, none⟩ = some (.int .i64 n10) := (Blk.cell HV1.out.b1 10).trans (hcur.out 10 n10 rfl)
    have l11 : V1.cell? ⟨g, 11, none⟩ = some (.int .i64 n11) := (Blk.cell HV1.out.b1 11).trans (hcur.out 11 n11 rfl)
    clear l0 l1 l2 l3 l4 l5 l6 l7 l8 l9 l10 l11
    have l0 : V1.cell? ⟨g, 0, none⟩ = some (.int .i64 n0) := (Blk.cell HV1.out.b1 0).trans (hcur.out 0 n0 rfl)
    have l5 : V1.cell? ⟨g, 5, none⟩ = some (.int .i64 n5) := (Blk.cell HV1.out.b1 5).trans (hcur.out 5 n5 rfl)
    have c22 : V1.cell? ⟨b3, 22, none⟩ = some (.int .i64 lv) := HV1.out.b0.cell 22
    have z22 : V1.frozen? ⟨b3, 22, none⟩ = false := HV1.out.b0.frozen 22
    have c25 : V1.cell? ⟨b3, 25, none⟩ = some (.int .i64 su) := HV1.out.b0.cell 25
    have z25 : V1.frozen? ⟨b3, 25, none⟩ = false := HV1.out.b0.frozen 25
    have hq1 : Bs w [(b3, 45, #[.int .i64 r, .int .i64 c, .int .u8 rd, .bool kp, .bool wp, .bool og, .int .i64 a, .int .i64 b, .int .i64 cc, .int .i64 d, .int .i64 l, .int .i64 rr, .int .i64 s, .int .i64 pt, .int .i64 pl, .int .i64 pb, .int .i64 pr, .int .i64 mt, .int .i64 ml, .int .i64 mb, .int .i64 mr, .int .u32 m, .int .i64 n0, .bool eg, .bool st, .int .i64 su, .bool bl, .int .i64 pg, .int .i64 ps]), (g, 3, cur), (w.heap.size, 45, Y), (w.heap.size + 1, 45, zO .u32)] ((V1).setCell ⟨b3, 22, none⟩ (.int .i64 n0)) := HV1.out.s0 22 (.int .i64 n0)
    have hq2 : Bs w [(b3, 45, #[.int .i64 r, .int .i64 c, .int .u8 rd, .bool kp, .bool wp, .bool og, .int .i64 a, .int .i64 b, .int .i64 cc, .int .i64 d, .int .i64 l, .int .i64 rr, .int .i64 s, .int .i64 pt, .int .i64 pl, .int .i64 pb, .int .i64 pr, .int .i64 mt, .int .i64 ml, .int .i64 mb, .int .i64 mr, .int .u32 m, .int .i64 n0, .bool eg, .bool st, .int .i64 n5, .bool bl, .int .i64 pg, .int .i64 ps]), (g, 3, cur), (w.heap.size, 45, Y), (w.heap.size + 1, 45, zO .u32)] (((V1).setCell ⟨b3, 22, none⟩ (.int .i64 n0)).setCell ⟨b3, 25, none⟩ (.int .i64 n5)) := hq1.s0 25 (.int .i64 n5)
    have HQ := Lib.hid hq2
    clear hq1 hq2
    try simp only [Act.put]
    go_cut [8] (fun sl wx => sl = .pointer (some ⟨b3, 0, none⟩) ∧ Bs w [(b3, 45, #[.int .i64 r, .int .i64 c, .int .u8 rd, .bool kp, .bool wp, .bool og, .int .i64 a, .int .i64 b, .int .i64 cc, .int .i64 d, .int .i64 l, .int .i64 rr, .int .i64 s, .int .i64 pt, .int .i64 pl, .int .i64 pb, .int .i64 pr, .int .i64 mt, .int .i64 ml, .int .i64 mb, .int .i64 mr, .int .u32 m, .int .i64 n0, .bool eg, .bool st, .int .i64 n5, .bool bl, .int .i64 pg, .int .i64 ps]), (g, 3, cur), (w.heap.size, 45, Y), (w.heap.size + 1, 45, zO .u32)] (wx))
    case first =>
      go_region
      all_goals
        go_wp2_with fail
        go_meet
        exact ⟨rfl, HQ.out.drewB⟩
    case rest =>
      obtain ⟨rfl, H6⟩ := hcut
      have HR6 := Lib.hid H6
      clear H6 HQ HV1 l0 l5 c22 z22 c25 z25
      --#k6
      rename World => W6
      have l1 : W6.cell? ⟨g, 1, none⟩ = some (.int .i64 n1) := (Blk.cell HR6.out.b1 1).trans (hcur.out 1 n1 rfl)
      have l4 : W6.cell? ⟨g, 4, none⟩ = some (.int .i64 n4) := (Blk.cell HR6.out.b1 4).trans (hcur.out 4 n4 rfl)
      have l6 : W6.cell? ⟨g, 6, none⟩ = some (.int .i64 n6) := (Blk.cell HR6.out.b1 6).trans (hcur.out 6 n6 rfl)
      have c23 : W6.cell? ⟨b3, 23, none⟩ = some (.bool eg) := HR6.out.b0.cell 23
      have z23 : W6.frozen? ⟨b3, 23, none⟩ = false := HR6.out.b0.frozen 23
      have c24 : W6.cell? ⟨b3, 24, none⟩ = some (.bool st) := HR6.out.b0.cell 24
      have z24 : W6.frozen? ⟨b3, 24, none⟩ = false := HR6.out.b0.frozen 24
      have c26 : W6.cell? ⟨b3, 26, none⟩ = some (.bool bl) := HR6.out.b0.cell 26
      have z26 : W6.frozen? ⟨b3, 26, none⟩ = false := HR6.out.b0.frozen 26
      have hq1 : Bs w [(b3, 45, #[.int .i64 r, .int .i64 c, .int .u8 rd, .bool kp, .bool wp, .bool og, .int .i64 a, .int .i64 b, .int .i64 cc, .int .i64 d, .int .i64 l, .int .i64 rr, .int .i64 s, .int .i64 pt, .int .i64 pl, .int .i64 pb, .int .i64 pr, .int .i64 mt, .int .i64 ml, .int .i64 mb, .int .i64 mr, .int .u32 m, .int .i64 n0, .bool (n1 == 1), .bool st, .int .i64 n5, .bool bl, .int .i64 pg, .int .i64 ps]), (g, 3, cur), (w.heap.size, 45, Y), (w.heap.size + 1, 45, zO .u32)] ((W6).setCell ⟨b3, 23, none⟩ (.bool (n1 == 1))) := HR6.out.s0 23 (.bool (n1 == 1))
      have hq2 : Bs w [(b3, 45, #[.int .i64 r, .int .i64 c, .int .u8 rd, .bool kp, .bool wp, .bool og, .int .i64 a, .int .i64 b, .int .i64 cc, .int .i64 d, .int .i64 l, .int .i64 rr, .int .i64 s, .int .i64 pt, .int .i64 pl, .int .i64 pb, .int .i64 pr, .int .i64 mt, .int .i64 ml, .int .i64 mb, .int .i64 mr, .int .u32 m, .int .i64 n0, .bool (n1 == 1), .bool (n4 == 1), .int .i64 n5, .bool bl, .int .i64 pg, .int .i64 ps]), (g, 3, cur), (w.heap.size, 45, Y), (w.heap.size + 1, 45, zO .u32)] (((W6).setCell ⟨b3, 23, none⟩ (.bool (n1 == 1))).setCell ⟨b3, 24, none⟩ (.bool (n4 == 1))) := hq1.s0 24 (.bool (n4 == 1))
      have hq3 : Bs w [(b3, 45, #[.int .i64 r, .int .i64 c, .int .u8 rd, .bool kp, .bool wp, .bool og, .int .i64 a, .int .i64 b, .int .i64 cc, .int .i64 d, .int .i64 l, .int .i64 rr, .int .i64 s, .int .i64 pt, .int .i64 pl, .int .i64 pb, .int .i64 pr, .int .i64 mt, .int .i64 ml, .int .i64 mb, .int .i64 mr, .int .u32 m, .int .i64 n0, .bool (n1 == 1), .bool (n4 == 1), .int .i64 n5, .bool (n6 == 1), .int .i64 pg, .int .i64 ps]), (g, 3, cur), (w.heap.size, 45, Y), (w.heap.size + 1, 45, zO .u32)] ((((W6).setCell ⟨b3, 23, none⟩ (.bool (n1 == 1))).setCell ⟨b3, 24, none⟩ (.bool (n4 == 1))).setCell ⟨b3, 26, none⟩ (.bool (n6 == 1))) := hq2.s0 26 (.bool (n6 == 1))
      have HQ := Lib.hid hq3
      clear hq1 hq2 hq3
      go_upto_region 7 with fail
      try simp only [Act.put]
      go_cut [8] (fun sl wx => sl = .pointer (some ⟨b3, 0, none⟩) ∧ Bs w [(b3, 45, #[.int .i64 r, .int .i64 c, .int .u8 rd, .bool kp, .bool wp, .bool og, .int .i64 a, .int .i64 b, .int .i64 cc, .int .i64 d, .int .i64 l, .int .i64 rr, .int .i64 s, .int .i64 pt, .int .i64 pl, .int .i64 pb, .int .i64 pr, .int .i64 mt, .int .i64 ml, .int .i64 mb, .int .i64 mr, .int .u32 m, .int .i64 n0, .bool (n1 == 1), .bool (n4 == 1), .int .i64 n5, .bool (n6 == 1), .int .i64 pg, .int .i64 ps]), (g, 3, cur), (w.heap.size, 45, Y), (w.heap.size + 1, 45, zO .u32)] (wx))
      case first =>
        go_region
        all_goals
          go_wp2_with fail
          go_meet
          exact ⟨rfl, HQ.out.drewB⟩
      case rest =>
        obtain ⟨rfl, H7⟩ := hcut
        have HR7 := Lib.hid H7
        clear H7 HQ HR6 l1 l4 l6 c23 z23 c24 z24 c26 z26
        --#k7
        rename World => W7
        have l2 : W7.cell? ⟨g, 2, none⟩ = some (.int .i64 n2) := (Blk.cell HR7.out.b1 2).trans (hcur.out 2 n2 rfl)
        have l3 : W7.cell? ⟨g, 3, none⟩ = some (.int .i64 n3) := (Blk.cell HR7.out.b1 3).trans (hcur.out 3 n3 rfl)
        have c21 : W7.cell? ⟨b3, 21, none⟩ = some (.int .u32 m) := HR7.out.b0.cell 21
        have z21 : W7.frozen? ⟨b3, 21, none⟩ = false := HR7.out.b0.frozen 21
        have hq1 : Bs w [(b3, 45, #[.int .i64 r, .int .i64 c, .int .u8 rd, .bool kp, .bool wp, .bool og, .int .i64 a, .int .i64 b, .int .i64 cc, .int .i64 d, .int .i64 l, .int .i64 rr, .int .i64 s, .int .i64 pt, .int .i64 pl, .int .i64 pb, .int .i64 pr, .int .i64 mt, .int .i64 ml, .int .i64 mb, .int .i64 mr, .int .u32 mq, .int .i64 n0, .bool (n1 == 1), .bool (n4 == 1), .int .i64 n5, .bool (n6 == 1), .int .i64 pg, .int .i64 ps]), (g, 3, cur), (w.heap.size, 45, Y), (w.heap.size + 1, 45, zO .u32)] ((W7).setCell ⟨b3, 21, none⟩ (.int .u32 mq)) := HR7.out.s0 21 (.int .u32 mq)
        have HQ := Lib.hid hq1
        clear hq1
        go_upto_region 8 with fail
        try simp only [Act.put]
        go_cut [8] (fun sl wx => sl = .pointer (some ⟨b3, 0, none⟩) ∧ Bs w [(b3, 45, #[.int .i64 r, .int .i64 c, .int .u8 rd, .bool kp, .bool wp, .bool og, .int .i64 a, .int .i64 b, .int .i64 cc, .int .i64 d, .int .i64 l, .int .i64 rr, .int .i64 s, .int .i64 pt, .int .i64 pl, .int .i64 pb, .int .i64 pr, .int .i64 mt, .int .i64 ml, .int .i64 mb, .int .i64 mr, .int .u32 mq, .int .i64 n0, .bool (n1 == 1), .bool (n4 == 1), .int .i64 n5, .bool (n6 == 1), .int .i64 pg, .int .i64 ps]), (g, 3, cur), (w.heap.size, 45, Y), (w.heap.size + 1, 45, zO .u32)] (wx))
        case first =>
          go_region
          all_goals
            go_wp2_with fail
            go_meet
            exact ⟨rfl, HQ.out.drewB⟩
        case rest =>
          obtain ⟨rfl, H8⟩ := hcut
          have HR8 := Lib.hid H8
          clear H8 HQ HR7 l2 l3 c21 z21
          --#k8
          rename World => W8
          have l7 : W8.cell? ⟨g, 7, none⟩ = some (.int .i64 n7) := (Blk.cell HR8.out.b1 7).trans (hcur.out 7 n7 rfl)
          have l8 : W8.cell? ⟨g, 8, none⟩ = some (.int .i64 n8) := (Blk.cell HR8.out.b1 8).trans (hcur.out 8 n8 rfl)
          have l9 : W8.cell? ⟨g, 9, none⟩ = some (.int .i64 n9) := (Blk.cell HR8.out.b1 9).trans (hcur.out 9 n9 rfl)
          have l10 : W8.cell? ⟨g, 10, none⟩ = some (.int .i64 n10) := (Blk.cell HR8.out.b1 10).trans (hcur.out 10 n10 rfl)
          have c17 : W8.cell? ⟨b3, 17, none⟩ = some (.int .i64 mt) := HR8.out.b0.cell 17
          have z17 : W8.frozen? ⟨b3, 17, none⟩ = false := HR8.out.b0.frozen 17
          have c18 : W8.cell? ⟨b3, 18, none⟩ = some (.int .i64 ml) := HR8.out.b0.cell 18
          have z18 : W8.frozen? ⟨b3, 18, none⟩ = false := HR8.out.b0.frozen 18
          have c19 : W8.cell? ⟨b3, 19, none⟩ = some (.int .i64 mb) := HR8.out.b0.cell 19
          have z19 : W8.frozen? ⟨b3, 19, none⟩ = false := HR8.out.b0.frozen 19
          have c20 : W8.cell? ⟨b3, 20, none⟩ = some (.int .i64 mr) := HR8.out.b0.cell 20
          have z20 : W8.frozen? ⟨b3, 20, none⟩ = false := HR8.out.b0.frozen 20
          have hq1 : Bs w [(b3, 45, #[.int .i64 r, .int .i64 c, .int .u8 rd, .bool kp, .bool wp, .bool og, .int .i64 a, .int .i64 b, .int .i64 cc, .int .i64 d, .int .i64 l, .int .i64 rr, .int .i64 s, .int .i64 pt, .int .i64 pl, .int .i64 pb, .int .i64 pr, .int .i64 n7, .int .i64 ml, .int .i64 mb, .int .i64 mr, .int .u32 mq, .int .i64 n0, .bool (n1 == 1), .bool (n4 == 1), .int .i64 n5, .bool (n6 == 1), .int .i64 pg, .int .i64 ps]), (g, 3, cur), (w.heap.size, 45, Y), (w.heap.size + 1, 45, zO .u32)] ((W8).setCell ⟨b3, 17, none⟩ (.int .i64 n7)) := HR8.out.s0 17 (.int .i64 n7)
          have hq2 : Bs w [(b3, 45, #[.int .i64 r, .int .i64 c, .int .u8 rd, .bool kp, .bool wp, .bool og, .int .i64 a, .int .i64 b, .int .i64 cc, .int .i64 d, .int .i64 l, .int .i64 rr, .int .i64 s, .int .i64 pt, .int .i64 pl, .int .i64 pb, .int .i64 pr, .int .i64 n7, .int .i64 n8, .int .i64 mb, .int .i64 mr, .int .u32 mq, .int .i64 n0, .bool (n1 == 1), .bool (n4 == 1), .int .i64 n5, .bool (n6 == 1), .int .i64 pg, .int .i64 ps]), (g, 3, cur), (w.heap.size, 45, Y), (w.heap.size + 1, 45, zO .u32)] (((W8).setCell ⟨b3, 17, none⟩ (.int .i64 n7)).setCell ⟨b3, 18, none⟩ (.int .i64 n8)) := hq1.s0 18 (.int .i64 n8)
          have hq3 : Bs w [(b3, 45, #[.int .i64 r, .int .i64 c, .int .u8 rd, .bool kp, .bool wp, .bool og, .int .i64 a, .int .i64 b, .int .i64 cc, .int .i64 d, .int .i64 l, .int .i64 rr, .int .i64 s, .int .i64 pt, .int .i64 pl, .int .i64 pb, .int .i64 pr, .int .i64 n7, .int .i64 n8, .int .i64 n9, .int .i64 mr, .int .u32 mq, .int .i64 n0, .bool (n1 == 1), .bool (n4 == 1), .int .i64 n5, .bool (n6 == 1), .int .i64 pg, .int .i64 ps]), (g, 3, cur), (w.heap.size, 45, Y), (w.heap.size + 1, 45, zO .u32)] ((((W8).setCell ⟨b3, 17, none⟩ (.int .i64 n7)).setCell ⟨b3, 18, none⟩ (.int .i64 n8)).setCell ⟨b3, 19, none⟩ (.int .i64 n9)) := hq2.s0 19 (.int .i64 n9)
          have hq4 : Bs w [(b3, 45, #[.int .i64 r, .int .i64 c, .int .u8 rd, .bool kp, .bool wp, .bool og, .int .i64 a, .int .i64 b, .int .i64 cc, .int .i64 d, .int .i64 l, .int .i64 rr, .int .i64 s, .int .i64 pt, .int .i64 pl, .int .i64 pb, .int .i64 pr, .int .i64 n7, .int .i64 n8, .int .i64 n9, .int .i64 n10, .int .u32 mq, .int .i64 n0, .bool (n1 == 1), .bool (n4 == 1), .int .i64 n5, .bool (n6 == 1), .int .i64 pg, .int .i64 ps]), (g, 3, cur), (w.heap.size, 45, Y), (w.heap.size + 1, 45, zO .u32)] (((((W8).setCell ⟨b3, 17, none⟩ (.int .i64 n7)).setCell ⟨b3, 18, none⟩ (.int .i64 n8)).setCell ⟨b3, 19, none⟩ (.int .i64 n9)).setCell ⟨b3, 20, none⟩ (.int .i64 n10)) := hq3.s0 20 (.int .i64 n10)
          have HQ := Lib.hid hq4
          clear hq1 hq2 hq3 hq4
          go_upto_region 9 with fail
          try simp only [Act.put]
          go_cut [8] (fun sl wx => sl = .pointer (some ⟨b3, 0, none⟩) ∧ Bs w [(b3, 45, #[.int .i64 r, .int .i64 c, .int .u8 rd, .bool kp, .bool wp, .bool og, .int .i64 a, .int .i64 b, .int .i64 cc, .int .i64 d, .int .i64 l, .int .i64 rr, .int .i64 s, .int .i64 pt, .int .i64 pl, .int .i64 pb, .int .i64 pr, .int .i64 n7, .int .i64 n8, .int .i64 n9, .int .i64 n10, .int .u32 mq, .int .i64 n0, .bool (n1 == 1), .bool (n4 == 1), .int .i64 n5, .bool (n6 == 1), .int .i64 pg, .int .i64 ps]), (g, 3, cur), (w.heap.size, 45, Y), (w.heap.size + 1, 45, zO .u32)] (wx))
          case first =>
            go_region
            all_goals
              go_wp2_with fail
              go_meet
              exact ⟨rfl, HQ.out.drewB⟩
          case rest =>
            obtain ⟨rfl, H9⟩ := hcut
            have HR9 := Lib.hid H9
            clear H9 HQ HR8 l7 l8 l9 l10 c17 z17 c18 z18 c19 z19 c20 z20
            --#k9
            rename World => W9
            have l11 : W9.cell? ⟨g, 11, none⟩ = some (.int .i64 n11) := (Blk.cell HR9.out.b1 11).trans (hcur.out 11 n11 rfl)
            have c5 : W9.cell? ⟨b3, 5, none⟩ = some (.bool og) := HR9.out.b0.cell 5
            have z5 : W9.frozen? ⟨b3, 5, none⟩ = false := HR9.out.b0.frozen 5
            have hq1 : Bs w [(b3, 45, #[.int .i64 r, .int .i64 c, .int .u8 rd, .bool kp, .bool wp, .bool (n11 == 1), .int .i64 a, .int .i64 b, .int .i64 cc, .int .i64 d, .int .i64 l, .int .i64 rr, .int .i64 s, .int .i64 pt, .int .i64 pl, .int .i64 pb, .int .i64 pr, .int .i64 n7, .int .i64 n8, .int .i64 n9, .int .i64 n10, .int .u32 mq, .int .i64 n0, .bool (n1 == 1), .bool (n4 == 1), .int .i64 n5, .bool (n6 == 1), .int .i64 pg, .int .i64 ps]), (g, 3, cur), (w.heap.size, 45, Y), (w.heap.size + 1, 45, zO .u32)] ((W9).setCell ⟨b3, 5, none⟩ (.bool (n11 == 1))) := HR9.out.s0 5 (.bool (n11 == 1))
            have HQ := Lib.hid hq1
            clear hq1
            go_upto_region 10 with fail
            try simp only [Act.put]
            go_cut [8] (fun sl wx => sl = .pointer (some ⟨b3, 0, none⟩) ∧ Bs w [(b3, 45, #[.int .i64 r, .int .i64 c, .int .u8 rd, .bool kp, .bool wp, .bool (n11 == 1), .int .i64 a, .int .i64 b, .int .i64 cc, .int .i64 d, .int .i64 l, .int .i64 rr, .int .i64 s, .int .i64 pt, .int .i64 pl, .int .i64 pb, .int .i64 pr, .int .i64 n7, .int .i64 n8, .int .i64 n9, .int .i64 n10, .int .u32 mq, .int .i64 n0, .bool (n1 == 1), .bool (n4 == 1), .int .i64 n5, .bool (n6 == 1), .int .i64 pg, .int .i64 ps]), (g, 3, cur), (w.heap.size, 45, Y), (w.heap.size + 1, 45, zO .u32)] (wx))
            case first =>
              go_wp2_with fail
              go_meet
              exact ⟨rfl, HQ.out⟩
            case rest =>
              obtain ⟨rfl, H10⟩ := hcut
              have HR10 := Lib.hid H10
              clear H10 HQ HR9 l11 c5 z5
              --#k10
              rename World => W10
              clear hcur w1 w2 hwu
              go_wp2_with (first | (refine wpList_load_row rfl _ _ rfl b3 rfl _ (#[.int .i64 r, .int .i64 c, .int .u8 rd, .bool kp, .bool wp, .bool (n11 == 1), .int .i64 a, .int .i64 b, .int .i64 cc, .int .i64 d, .int .i64 l, .int .i64 rr, .int .i64 s, .int .i64 pt, .int .i64 pl, .int .i64 pb, .int .i64 pr, .int .i64 n7, .int .i64 n8, .int .i64 n9, .int .i64 n10, .int .u32 mq, .int .i64 n0, .bool (n1 == 1), .bool (n4 == 1), .int .i64 n5, .bool (n6 == 1), .int .i64 pg, .int .i64 ps]) (0, 0) _ HR10.out.b0 under_co rfl info_co ?_))
              refine (HCl2.out _ (HT.out.next HR10.out.bel) (HF.out.next HR10.out.bel)).mono ?_
              rintro e u5 ⟨rfl, hb⟩
              have HK5 := Lib.hid (HR10.out.next hb)
              clear hb HR10 HCl2 HT HF
              go_upto_region 12 with (refine wpList_store_row rfl _ _ _ rfl b3 Z rfl rfl _ _ HK5.out.b0 (by rw [hS3]; exact info_co) (by rw [hS3]; rfl) hO3 ?_)
              refine world_gen (fun V => Bs w [(b3, 45, Z), (g, 3, cur), (w.heap.size, 45, Y), (w.heap.size + 1, 45, zO .u32)] V) (HK5.out.row Z) ?_
              intro u6 H6
              have HK6 := Lib.hid H6
              clear H6 HK5
              --#m1
              go_wp2_with (first | (refine wpList_load_row rfl _ _ rfl b3 rfl _ Z (0, 0) _ HK6.out.b0 under_co rfl (by rw [hS3]; exact info_co) ?_))
              refine (HNu.out _).mono ?_
              rintro e u7 ⟨rfl, hb⟩
              have HK7 := Lib.hid (HK6.out.next hb)
              clear hb HK6 HNu
              --#m2
              go_upto_region 13 with (refine wpList_store_row rfl _ _ _ rfl u7.heap.size NZ rfl rfl _ _ (Blk.new u7 _ _) (by rw [hnz12]; kernel_rfl) (by rw [hnz12]; rfl) hnz1 ?_)
              have HK8 := Lib.hid (HK7.out.alloc 107 NZ)
              refine world_gen (fun V => Bs w [(u7.heap.size, 107, NZ), (b3, 45, Z), (g, 3, cur), (w.heap.size, 45, Y), (w.heap.size + 1, 45, zO .u32)] V) (by rw [World.setRow_alloc_new]; exact HK8.out) ?_
              intro u8 H8
              generalize u7.heap.size = b9 at *
              replace H8 := Lib.hid H8
              clear HK7 HK8
              --#m3
              have rA : RInts u8 (some ⟨b9, 0, none⟩) nz := by
                refine rints_of12 (hnzv.out ▸ H8.out.b0)
              have rB : RInts u8 (some ⟨g, 0, none⟩) [n0, n1, n2, n3, n4, n5, n6, n7, n8, n9, n10, n11] := rints_cur H8.out.b2 hcur2.out
              replace rA := Lib.hid rA; replace rB := Lib.hid rB
              go_wp2_with fail
              refine (HEq.out _ _ _ _ rA.out rB.out).mono ?_
              rintro e u9 ⟨rfl, hb⟩
              have HK9 := Lib.hid (H8.out.next hb)
              clear hb H8 rA rB HEq hcur2 hnzv
              --#m4
              rcases okb with _ | _
              · have HKf := Lib.hid (HK9.out.tl.tl.tl.tl.row Y)
                go_upto_region 14 with fail
                go_step
                refine wpList_load_row rfl _ _ rfl w.heap.size rfl _ Y (0, 0) _ HK9.out.b3 under_co rfl (by rw [hS2]; exact info_co) ?_
                refine wpList_store_row rfl _ _ _ rfl (w.heap.size + 1) Y rfl rfl _ _ HK9.out.b4 (by rw [hS2]; exact info_co) (by rw [hS2]; rfl) hO2 ?_
                repeat go_step
                refine bodyPost_ret (v := .tuple #[.agg Y, .int .i64 3]) (results_row_tmp rfl _ _ (w.heap.size + 1) 45 Y (0, 0) _ (.int .i64 3) rfl rfl HKf.out.b0 under_co rfl (by rw [hS2]; exact info_co)) rfl ⟨?_, HKf.out.bel⟩
                rw [hR.out, hYL.out]
                rfl
              · have HKf := Lib.hid (HK9.out.tl.tl.tl.tl.row Z)
                go_upto_region 15 with fail
                go_step
                refine wpList_load_row rfl _ _ rfl b3 rfl _ Z (0, 0) _ HK9.out.b1 under_co rfl (by rw [hS3]; exact info_co) ?_
                refine wpList_store_row rfl _ _ _ rfl (w.heap.size + 1) Z rfl rfl _ _ HK9.out.b4 (by rw [hS3]; exact info_co) (by rw [hS3]; rfl) hO3 ?_
                repeat go_step
                refine bodyPost_ret (v := .tuple #[.agg Z, .int .i64 0]) (results_row_tmp rfl _ _ (w.heap.size + 1) 45 Z (0, 0) _ (.int .i64 0) rfl rfl HKf.out.b0 under_co rfl (by rw [hS3]; exact info_co)) rfl ⟨?_, HKf.out.bel⟩
                rw [hR.out, hfin.out (by first | rfl | trivial)]
                rfl
end Go.Proofs.YtfnamfkjbkhgeaaGreatDoor

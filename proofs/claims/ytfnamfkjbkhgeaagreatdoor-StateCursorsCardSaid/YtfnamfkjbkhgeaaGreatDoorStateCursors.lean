/-
  StateCursors holds, whatever the input: the card of the statement, with ten tables tied to the program's text.
-/
import Derived.Test.YtfnamfkjbkhgeaaGreatDoorCards
import Derived.Test.YtfnamfkjbkhgeaaGreatDoorTie
import Derived.Test.YtfnamfkjbkhgeaaGreatDoorFrameSz
import Derived.Test.YtfnamfkjbkhgeaaGreatDoorStaI
import Derived.Test.YtfnamfkjbkhgeaaGreatDoorStaZ3
namespace Go.Proofs.YtfnamfkjbkhgeaaGreatDoor.stateCursors
open Go.ChangeShapes Go.WideShapes Go.ChangeAt Go.RowKit
open Go.ChangeMaps (open_string)

theorem exec_eqA {P : Program} {o : Oper} {a : Act} (op : BinOp) (T : TypeId) (x y : Operand) (u : TypeId) (ho : o.op = .binOp op T x y u) {vx vy r : Value} {w : World} (hx : a.eval x = vx) (hy : a.eval y = vy)
    (hg : (eqGuard op T x y vx vy).run P w = .ok () w) (hb : (binOp op T vx vy).run P w = .ok r w) : (execOp a.eval o).run P w = .ok (.value r) w := by
  unfold execOp
  rw [ho]
  simp only [hx, hy, Sem.run_bind, hg, hb, Result.andThen_ok, Sem.run_pure]
theorem ext_size (s : ByteArray) : (s.extract 0 300).size ≤ 300 := by rw [ByteArray.size_extract]; omega
set_option maxRecDepth 100000 in
set_option maxHeartbeats 8000000 in
theorem walk (x : Co) (mz : Int) (lo : 0 ≤ x.K.rd) (hi : x.K.rd ≤ 255) (x' : Co) (mz' : Int) (lo' : 0 ≤ x'.K.rd) (hi' : x'.K.rd ≤ 255) (s : ByteArray) (_hsz : s.size ≤ maxLen) (w : World) (ht : Tab w) (hfc : Faces w) (htn : Ten w) (hmd : Mods w) (hbl : Blanks w) :
    Calls Tryz.prog 3 #[.agg (coZ x mz), .agg (coZ x' mz'), .string s] w fun e w' => e = .returned (.bool true) ∧ Below w.heap.size w w' := by
  have HAw := Lib.hid (fun V t f n m => awakeS_any V t f n m)
  have HSm := Lib.hid (fun V => sSmall_any x mz V); have HSm' := Lib.hid (fun V => sSmall_any x' mz' V)
  have hT := Lib.hid ht; have hF := Lib.hid hfc; have hN := Lib.hid htn; have hM := Lib.hid hmd; have hBl := Lib.hid hbl
  have hS : (coZ x mz).size = 29 := rfl
  have hS' : (coZ x' mz').size = 29 := rfl
  have HS := Lib.hid (Bs.start2' w 33 33 (coZ x mz) (coZ x' mz'))
  clear ht hfc htn hmd hbl
  rcases hsm : smK x.f mz with _ | _
  · rw [hsm] at HSm
    generalize coZ x mz = X at *
    generalize coZ x' mz' = X' at *
    clear hsm lo hi lo' hi' HSm'
    --#1
    go_enter Tryz.func3, Tryz.ntmps3
    go_wp2_with fail
    refine (HAw.out _ (hT.out.next HS.out.bel) (hF.out.next HS.out.bel) (hN.out.next HS.out.bel) (hM.out.next HS.out.bel)).mono ?_
    rintro e w1 ⟨rfl, hb⟩
    have HK1 := Lib.hid (HS.out.next hb)
    clear hb HS
    go_wp2_with (first | (refine wpList_load_row rfl _ _ rfl w.heap.size rfl _ X (0, 0) _ HK1.out.b0 under_cr rfl (by rw [hS]; exact info_cr) ?_))
    refine (HSm.out _).mono ?_
    rintro e w2 ⟨rfl, hb⟩
    have HK2 := Lib.hid (HK1.out.next hb)
    clear hb HK1
    go_wp2_with fail
    go_ret
    exact ⟨rfl, HK2.out.bel⟩
  · have hb : 0 ≤ mz ∧ mz < 4294967296 ∧ x.f.pb ≤ 60000 ∧ x.f.pr ≤ 60000 := by
      unfold smK at hsm
      simpa [Bool.and_eq_true, and_assoc] using hsm
    rw [hsm] at HSm
    rcases hsm' : smK x'.f mz' with _ | _
    · rw [hsm'] at HSm'
      generalize coZ x mz = X at *
      generalize coZ x' mz' = X' at *
      clear hsm hsm' lo hi lo' hi' hb
      --#2
      go_enter Tryz.func3, Tryz.ntmps3
      go_wp2_with fail
      refine (HAw.out _ (hT.out.next HS.out.bel) (hF.out.next HS.out.bel) (hN.out.next HS.out.bel) (hM.out.next HS.out.bel)).mono ?_
      rintro e w1 ⟨rfl, hb⟩
      have HK1 := Lib.hid (HS.out.next hb)
      clear hb HS
      go_wp2_with (first | (refine wpList_load_row rfl _ _ rfl w.heap.size rfl _ X (0, 0) _ HK1.out.b0 under_cr rfl (by rw [hS]; exact info_cr) ?_))
      refine (HSm.out _).mono ?_
      rintro e w2 ⟨rfl, hb⟩
      have HK2 := Lib.hid (HK1.out.next hb)
      clear hb HK1
      --#3
      go_wp2_with (first | (refine wpList_load_rowG rfl _ _ rfl (w.heap.size + 1) rfl _ X' (0, 0) _ HK2.out.b1 under_cr rfl (by rw [hS']; exact info_cr) ?_))
      refine (HSm'.out _).mono ?_
      rintro e w3 ⟨rfl, hb⟩
      have HK3 := Lib.hid (HK2.out.next hb)
      clear hb HK2
      go_wp2_with fail
      go_ret
      exact ⟨rfl, HK3.out.bel⟩
    · have hb' : 0 ≤ mz' ∧ mz' < 4294967296 ∧ x'.f.pb ≤ 60000 ∧ x'.f.pr ≤ 60000 := by
        unfold smK at hsm'
        simpa [Bool.and_eq_true, and_assoc] using hsm'
      rw [hsm'] at HSm'
      obtain ⟨z, hz⟩ : ∃ z : Co, z = { x with m := mz.toNat } := ⟨_, rfl⟩
      obtain ⟨z', hz'⟩ : ∃ z : Co, z = { x' with m := mz'.toNat } := ⟨_, rfl⟩
      have hzX : coZ x mz = coC .i64 z := by
        have e : ((mz.toNat : Nat) : Int) = mz := by omega
        subst hz
        unfold coZ coC
        simp only [e]
      have hzX' : coZ x' mz' = coC .i64 z' := by
        have e : ((mz'.toNat : Nat) : Int) = mz' := by omega
        subst hz'
        unfold coZ coC
        simp only [e]
      have hzm : z.m < 2 ^ 32 := by subst hz; show mz.toNat < 2 ^ 32; omega
      have hzm' : z'.m < 2 ^ 32 := by subst hz'; show mz'.toNat < 2 ^ 32; omega
      obtain ⟨H, W, it, il, ib, ir, hfr⟩ := fr_ok z.f (by subst hz; exact hb.2.2.1) (by subst hz; exact hb.2.2.2)
      obtain ⟨H', W', it', il', ib', ir', hfr'⟩ := fr_ok z'.f (by subst hz'; exact hb'.2.2.1) (by subst hz'; exact hb'.2.2.2)
      have l1 : 0 ≤ z.K.rd := by subst hz; exact lo
      have l2 : z.K.rd ≤ 255 := by subst hz; exact hi
      have l3 : 0 ≤ z'.K.rd := by subst hz'; exact lo'
      have l4 : z'.K.rd ≤ 255 := by subst hz'; exact hi'
      have HOw := Lib.hid (fun V => coOwn_any hzm V); have HOw' := Lib.hid (fun V => coOwn_any hzm' V)
      have HRe := Lib.hid (fun V t f n => cursor_any hfr l1 l2 hzm V t f n)
      have HRr := Lib.hid (fun V => refToldC_any hfr l1 l2 V)
      have hjs : (joinT (curF (clnP z H W it il ib ir))).size ≤ 300 := by
        have := lens_le9 ((curF (clnP z H W it il ib ir)).map (·.data.toList)) (fun u hu => by
          obtain ⟨v, hv, rfl⟩ := List.mem_map.1 hu
          exact curF_len _ v hv)
        rw [List.length_map, show (curF (clnP z H W it il ib ir)).length = 10 from rfl] at this
        show (Lib.join _ [59]).toArray.size ≤ 300
        rw [List.size_toArray]
        omega
      have HSc := Lib.hid (fun (t : ByteArray) (ht : t.size ≤ 300) => scBoth_any hfr' l3 l4 hzm' t (by omega))
      rw [hzX] at HS HSm hS ⊢
      rw [hzX'] at HS HSm' hS' ⊢
      clear hzX hzX' hz hz' hzm hzm' hfr hfr' l1 l2 l3 l4 hb hb' hsm hsm' lo hi lo' hi'
      generalize joinT (curF (clnP z H W it il ib ir)) = js at *
      unfold coV at HOw HOw' HRe HRr HSc
      generalize coC .u32 z = XU at *
      generalize coC .i64 z = X at *
      generalize coC .u32 z' = XU' at *
      generalize coC .i64 z' = X' at *
      --#4
      obtain ⟨r, hrs, hcase⟩ : ∃ t : ByteArray, t.size ≤ 300 ∧ ((s = t ∧ ¬ 300 < s.size) ∨ (s.extract 0 300 = t ∧ 300 < s.size)) := by
        by_cases h : 300 < s.size
        · exact ⟨_, by simp; omega, .inr ⟨rfl, h⟩⟩
        · exact ⟨_, by omega, .inl ⟨rfl, h⟩⟩
      have HTx : Hid (∀ (k : Nat) (t : ByteArray), [js, r][k]? = some t → t.size ≤ 300) := Lib.hid (fun k t ht => by
        have := List.mem_of_getElem? ht
        simp only [List.mem_cons, List.not_mem_nil, or_false] at this
        rcases this with rfl | rfl
        · exact hjs
        · exact hrs)
      have E1 := Lib.hid (fun V q => neq_co V q); have G1 := Lib.hid (fun V op p p2 q => guard_co V op p p2 q q)
      have HTo := Lib.hid (fun (q : Co) (hq : q.m < 2 ^ 32) V => coTold_any hq V)
      have hjj : (js.toList != js.toList) = false := by simp
      clear hjs
      rcases hcase with ⟨he, hlen⟩ | ⟨he, hlen⟩
      · rw [he] at hlen ⊢
        clear he
        go_enter Tryz.func3, Tryz.ntmps3
        go_wp2_with fail
        refine (HAw.out _ (hT.out.next HS.out.bel) (hF.out.next HS.out.bel) (hN.out.next HS.out.bel) (hM.out.next HS.out.bel)).mono ?_
        rintro e w1 ⟨rfl, hb⟩
        have HK1 := Lib.hid (HS.out.next hb)
        clear hb HS HAw hM
        go_wp2_with (first | (refine wpList_load_row rfl _ _ rfl w.heap.size rfl _ X (0, 0) _ HK1.out.b0 under_cr rfl (by rw [hS]; exact info_cr) ?_))
        refine (HSm.out _).mono ?_
        rintro e w2 ⟨rfl, hb⟩
        have HK2 := Lib.hid (HK1.out.next hb)
        clear hb HK1 HSm
        go_wp2_with (first | (refine wpList_load_rowG rfl _ _ rfl (w.heap.size + 1) rfl _ X' (0, 0) _ HK2.out.b1 under_cr rfl (by rw [hS']; exact info_cr) ?_))
        refine (HSm'.out _).mono ?_
        rintro e w3 ⟨rfl, hb⟩
        have HK3 := Lib.hid (HK2.out.next hb)
        clear hb HK2 HSm'
        --#5
        go_wp2_with (first | (refine wpList_load_row rfl _ _ rfl w.heap.size rfl _ X (0, 0) _ HK3.out.b0 under_cr rfl (by rw [hS]; exact info_cr) ?_))
        refine (HOw.out _).mono ?_
        rintro e w4 ⟨rfl, hb⟩
        have HK4 := Lib.hid (HK3.out.next hb)
        clear hb HK3 HOw
        go_wp2_with fail
        refine (HRe.out _ (hT.out.next HK4.out.bel) (hF.out.next HK4.out.bel) (hN.out.next HK4.out.bel)).mono ?_
        rintro e w5 ⟨rfl, hb⟩
        have HK5 := Lib.hid (HK4.out.next hb)
        clear hb HK4 HRe hN
        go_wp2_with (first | (refine wpList_load_row rfl _ _ rfl w.heap.size rfl _ X (0, 0) _ HK5.out.b0 under_cr rfl (by rw [hS]; exact info_cr) ?_))
        refine (HRr.out _).mono ?_
        rintro e w6 ⟨rfl, hb⟩
        have HK6 := Lib.hid (HK5.out.next hb)
        clear hb HK5 HRr
        --#6
        try rw [he]
        have HN := Lib.hid (HK6.out.alloc 9 #[.string js, .string r])
        go_wp2_with fail
        --#7
        go_loopw [40] (fun i wr => ∃ k : Nat, k ≤ 2 ∧ i = .int .i64 k ∧ Bs w [(w6.heap.size, 9, ([js, r].map Value.string).toArray), (w.heap.size, 33, X), (w.heap.size + 1, 33, X')] wr) (fun i _ => 2 - (intOf i).toNat)
        case atStart => exact ⟨0, by omega, rfl, HN.out⟩
        case round =>
          obtain ⟨k, hk, rfl, hB⟩ := hrel
          replace hB := Lib.hid hB
          clear HN HK6
          by_cases hlt : k < 2
          · obtain ⟨tt, htt⟩ : ∃ e, [js, r][k]? = some e := ⟨_, List.getElem?_eq_getElem (by show k < 2; omega)⟩
            have hcell : wr.cell? ⟨w6.heap.size, k, none⟩ = some (.string tt) := (Blk.cell hB.out.b0 k).trans (by rw [List.getElem?_toArray, List.getElem?_map, htt]; rfl)
            have ht3 := HTx.out k tt htt
            obtain ⟨Q, okb, hq, _, HRsk, HRRk⟩ := HSc.out tt ht3
            replace HRsk := Lib.hid HRsk; replace HRRk := Lib.hid HRRk
            have HTk := Lib.hid (fun V => HTo.out Q hq V); have E2 := Lib.hid (fun V => E1.out V Q); have G2 := Lib.hid (fun V op p p2 => G1.out V op p p2 Q)
            have hz1 := coS .u32 Q; have hz2 := coS .i64 Q; have ho1 := co_one .u32 Q; have ho2 := co_one .i64 Q
            clear htt ht3 hq HSc HTo E1 G1 HTx
            unfold coV at HTk E2 G2
            generalize coC .u32 Q = QU at *
            generalize coC .i64 Q = QR at *
            --#8
            go_upto_region 13 with fail
            go_wp2_with (first | (refine wpList_load_row rfl _ _ rfl (w.heap.size + 1) rfl _ X' (0, 0) _ hB.out.b2 under_cr rfl (by rw [hS']; exact info_cr) ?_))
            refine (HOw'.out _).mono ?_
            rintro e1 u3 ⟨rfl, hb⟩
            have hB3 := Lib.hid (hB.out.next hb)
            clear hb hB hcell HOw'
            rcases okb with _ | _
            all_goals
              simp only [Bool.false_eq_true, if_false, if_true] at HRsk HRRk
              go_wp2_with fail
              refine (HRsk.out _ (hT.out.next hB3.out.bel) (hF.out.next hB3.out.bel) (hBl.out.next hB3.out.bel)).mono ?_
              rintro e1 u4 ⟨rfl, hb⟩
              have hB4 := Lib.hid (hB3.out.next hb)
              clear hb hB3 HRsk hT hF hBl
              --#9
              go_upto_region 14 with (refine wpList_store_row rfl _ _ _ rfl u4.heap.size QU rfl rfl _ _ (Blk.new u4 _ _) (by rw [hz1]; exact info_co) (by rw [hz1]; rfl) ho1 ?_)
              have hB5 := Lib.hid (hB4.out.alloc 45 QU)
              refine world_gen (fun V => Bs w [(u4.heap.size, 45, QU), (w6.heap.size, 9, ([js, r].map Value.string).toArray), (w.heap.size, 33, X), (w.heap.size + 1, 33, X')] V) (by rw [World.setRow_alloc_new]; exact hB5.out) ?_
              intro u5 H5
              generalize u4.heap.size = c1 at *
              have hB6 := Lib.hid H5
              clear H5 hB4 hB5
              go_wp2_with (first | (refine wpList_load_row rfl _ _ rfl (w.heap.size + 1) rfl _ X' (0, 0) _ hB6.out.b3 under_cr rfl (by rw [hS']; exact info_cr) ?_))
              refine (HRRk.out _).mono ?_
              rintro e1 u6 ⟨rfl, hb⟩
              have hB7 := Lib.hid (hB6.out.next hb)
              clear hb hB6 HRRk
              --#a
              go_upto_region 15 with (refine wpList_store_row rfl _ _ _ rfl u6.heap.size QR rfl rfl _ _ (Blk.new u6 _ _) (by rw [hz2]; exact info_cr) (by rw [hz2]; rfl) ho2 ?_)
              have hB8 := Lib.hid (hB7.out.alloc 33 QR)
              refine world_gen (fun V => Bs w [(u6.heap.size, 33, QR), (c1, 45, QU), (w6.heap.size, 9, ([js, r].map Value.string).toArray), (w.heap.size, 33, X), (w.heap.size + 1, 33, X')] V) (by rw [World.setRow_alloc_new]; exact hB8.out) ?_
              intro u7 H7
              generalize u6.heap.size = c2 at *
              have hB9 := Lib.hid H7
              clear H7 hB7 hB8
              have HXa := Lib.hid (fun w' (h : Only [] u7 w') => h.blk hB9.out.b1 (by simp))
              have HXb := Lib.hid (fun w' (h : Only [] u7 w') => h.blk hB9.out.b0 (by simp))
              --#b
              refine wp_region_mix_lit (by kernel_rfl) [(1, .call (.agg QR))] (by kernel_rfl) (by kernel_rfl) (by kernel_rfl) (by rfl) (by simp [apartK] <;> omega) (by simp [startK]) (by simp [stabK]) (⟨fun _ => undef, by simp [okK]⟩) (fun β hβ => ?_)
              refine lex_val (v := .agg QU) rfl rfl (fun w' hf => exec_load_row _ (.tmp 10) rfl rfl (HXa.out w' hf.only) under_co rfl (by rw [hz1]; exact info_co)) ?_
              try simp only [Act.put, List.setIfInBounds_toArray, List.set_cons_zero, List.set_cons_succ]
              refine lex_call (f := 13) (args := ?_) rfl rfl (fun w' hf => ?_) (fun w' hf => ?_) ?_
              rotate_left
              · go_simp
                try rfl
              · exact HTk.out w'
              try simp only [Act.put, List.setIfInBounds_toArray, List.set_cons_zero, List.set_cons_succ]
              refine lex_val (v := .agg QR) rfl rfl (fun w' hf => exec_load_row _ (.tmp 12) rfl rfl (HXb.out w' hf.only) under_cr rfl (by rw [hz2]; exact info_cr)) ?_
              try simp only [Act.put, List.setIfInBounds_toArray, List.set_cons_zero, List.set_cons_succ]
              refine lex_val (v := .bool false) rfl rfl (fun w' hf => exec_eqA .neq _ (.tmp 58) (.tmp 59) _ rfl rfl rfl (G2.out w' _ _ _) (E2.out w')) ?_
              try simp only [Act.put, List.setIfInBounds_toArray, List.set_cons_zero, List.set_cons_succ]
              --#c
              repeat (
                refine lex_val (v := ?_) rfl rfl (fun w' hf => ?_) ?_
                rotate_left
                · go_simp
                  try rfl
                try simp only [Act.put, List.setIfInBounds_toArray, List.set_cons_zero, List.set_cons_succ])
              try (refine lex_skip rfl rfl ?_; try simp only [Act.put, List.setIfInBounds_toArray, List.set_cons_zero, List.set_cons_succ])
              try (refine lex_skip rfl rfl ?_; try simp only [Act.put, List.setIfInBounds_toArray, List.set_cons_zero, List.set_cons_succ])
              repeat (
                refine lex_val (v := ?_) rfl rfl (fun w' hf => ?_) ?_
                rotate_left
                · go_simp
                  try rfl
                try simp only [Act.put, List.setIfInBounds_toArray, List.set_cons_zero, List.set_cons_succ])
              refine lex_nil fun u8 he9 => ?_
              have hBa := Lib.hid (hB9.out.only he9.only)
              clear he9 hβ HXa HXb hB9
              --#d
              go_wp2_with fail
              --#e
              go_roundw
              case rel => exact ⟨k + 1, by omega, by simp, hBa.out.tl.tl⟩
              case measure => simp [intOf]; omega
          · obtain rfl : k = 2 := by omega
            clear HSc HTo E1 G1 HTx hT hF hBl HOw'
            go_wp2_with fail
            go_ret
            exact ⟨rfl, hB.out.bel⟩
      · skip
        go_enter Tryz.func3, Tryz.ntmps3
        go_wp2_with fail
        refine (HAw.out _ (hT.out.next HS.out.bel) (hF.out.next HS.out.bel) (hN.out.next HS.out.bel) (hM.out.next HS.out.bel)).mono ?_
        rintro e w1 ⟨rfl, hb⟩
        have HK1 := Lib.hid (HS.out.next hb)
        clear hb HS HAw hM
        go_wp2_with (first | (refine wpList_load_row rfl _ _ rfl w.heap.size rfl _ X (0, 0) _ HK1.out.b0 under_cr rfl (by rw [hS]; exact info_cr) ?_))
        refine (HSm.out _).mono ?_
        rintro e w2 ⟨rfl, hb⟩
        have HK2 := Lib.hid (HK1.out.next hb)
        clear hb HK1 HSm
        go_wp2_with (first | (refine wpList_load_rowG rfl _ _ rfl (w.heap.size + 1) rfl _ X' (0, 0) _ HK2.out.b1 under_cr rfl (by rw [hS']; exact info_cr) ?_))
        refine (HSm'.out _).mono ?_
        rintro e w3 ⟨rfl, hb⟩
        have HK3 := Lib.hid (HK2.out.next hb)
        clear hb HK2 HSm'
        --#5
        go_wp2_with (first | (refine wpList_load_row rfl _ _ rfl w.heap.size rfl _ X (0, 0) _ HK3.out.b0 under_cr rfl (by rw [hS]; exact info_cr) ?_))
        refine (HOw.out _).mono ?_
        rintro e w4 ⟨rfl, hb⟩
        have HK4 := Lib.hid (HK3.out.next hb)
        clear hb HK3 HOw
        go_wp2_with fail
        refine (HRe.out _ (hT.out.next HK4.out.bel) (hF.out.next HK4.out.bel) (hN.out.next HK4.out.bel)).mono ?_
        rintro e w5 ⟨rfl, hb⟩
        have HK5 := Lib.hid (HK4.out.next hb)
        clear hb HK4 HRe hN
        go_wp2_with (first | (refine wpList_load_row rfl _ _ rfl w.heap.size rfl _ X (0, 0) _ HK5.out.b0 under_cr rfl (by rw [hS]; exact info_cr) ?_))
        refine (HRr.out _).mono ?_
        rintro e w6 ⟨rfl, hb⟩
        have HK6 := Lib.hid (HK5.out.next hb)
        clear hb HK5 HRr
        --#6
        try rw [he]
        have HN := Lib.hid (HK6.out.alloc 9 #[.string js, .string r])
        go_wp2_with fail
        --#7
        go_loopw [40] (fun i wr => ∃ k : Nat, k ≤ 2 ∧ i = .int .i64 k ∧ Bs w [(w6.heap.size, 9, ([js, r].map Value.string).toArray), (w.heap.size, 33, X), (w.heap.size + 1, 33, X')] wr) (fun i _ => 2 - (intOf i).toNat)
        case atStart => exact ⟨0, by omega, rfl, HN.out⟩
        case round =>
          obtain ⟨k, hk, rfl, hB⟩ := hrel
          replace hB := Lib.hid hB
          clear HN HK6
          by_cases hlt : k < 2
          · obtain ⟨tt, htt⟩ : ∃ e, [js, r][k]? = some e := ⟨_, List.getElem?_eq_getElem (by show k < 2; omega)⟩
            have hcell : wr.cell? ⟨w6.heap.size, k, none⟩ = some (.string tt) := (Blk.cell hB.out.b0 k).trans (by rw [List.getElem?_toArray, List.getElem?_map, htt]; rfl)
            have ht3 := HTx.out k tt htt
            obtain ⟨Q, okb, hq, _, HRsk, HRRk⟩ := HSc.out tt ht3
            replace HRsk := Lib.hid HRsk; replace HRRk := Lib.hid HRRk
            have HTk := Lib.hid (fun V => HTo.out Q hq V); have E2 := Lib.hid (fun V => E1.out V Q); have G2 := Lib.hid (fun V op p p2 => G1.out V op p p2 Q)
            have hz1 := coS .u32 Q; have hz2 := coS .i64 Q; have ho1 := co_one .u32 Q; have ho2 := co_one .i64 Q
            clear htt ht3 hq HSc HTo E1 G1 HTx
            unfold coV at HTk E2 G2
            generalize coC .u32 Q = QU at *
            generalize coC .i64 Q = QR at *
            --#8
            go_upto_region 13 with fail
            go_wp2_with (first | (refine wpList_load_row rfl _ _ rfl (w.heap.size + 1) rfl _ X' (0, 0) _ hB.out.b2 under_cr rfl (by rw [hS']; exact info_cr) ?_))
            refine (HOw'.out _).mono ?_
            rintro e1 u3 ⟨rfl, hb⟩
            have hB3 := Lib.hid (hB.out.next hb)
            clear hb hB hcell HOw'
            rcases okb with _ | _
            all_goals
              simp only [Bool.false_eq_true, if_false, if_true] at HRsk HRRk
              go_wp2_with fail
              refine (HRsk.out _ (hT.out.next hB3.out.bel) (hF.out.next hB3.out.bel) (hBl.out.next hB3.out.bel)).mono ?_
              rintro e1 u4 ⟨rfl, hb⟩
              have hB4 := Lib.hid (hB3.out.next hb)
              clear hb hB3 HRsk hT hF hBl
              --#9
              go_upto_region 14 with (refine wpList_store_row rfl _ _ _ rfl u4.heap.size QU rfl rfl _ _ (Blk.new u4 _ _) (by rw [hz1]; exact info_co) (by rw [hz1]; rfl) ho1 ?_)
              have hB5 := Lib.hid (hB4.out.alloc 45 QU)
              refine world_gen (fun V => Bs w [(u4.heap.size, 45, QU), (w6.heap.size, 9, ([js, r].map Value.string).toArray), (w.heap.size, 33, X), (w.heap.size + 1, 33, X')] V) (by rw [World.setRow_alloc_new]; exact hB5.out) ?_
              intro u5 H5
              generalize u4.heap.size = c1 at *
              have hB6 := Lib.hid H5
              clear H5 hB4 hB5
              go_wp2_with (first | (refine wpList_load_row rfl _ _ rfl (w.heap.size + 1) rfl _ X' (0, 0) _ hB6.out.b3 under_cr rfl (by rw [hS']; exact info_cr) ?_))
              refine (HRRk.out _).mono ?_
              rintro e1 u6 ⟨rfl, hb⟩
              have hB7 := Lib.hid (hB6.out.next hb)
              clear hb hB6 HRRk
              --#a
              go_upto_region 15 with (refine wpList_store_row rfl _ _ _ rfl u6.heap.size QR rfl rfl _ _ (Blk.new u6 _ _) (by rw [hz2]; exact info_cr) (by rw [hz2]; rfl) ho2 ?_)
              have hB8 := Lib.hid (hB7.out.alloc 33 QR)
              refine world_gen (fun V => Bs w [(u6.heap.size, 33, QR), (c1, 45, QU), (w6.heap.size, 9, ([js, r].map Value.string).toArray), (w.heap.size, 33, X), (w.heap.size + 1, 33, X')] V) (by rw [World.setRow_alloc_new]; exact hB8.out) ?_
              intro u7 H7
              generalize u6.heap.size = c2 at *
              have hB9 := Lib.hid H7
              clear H7 hB7 hB8
              have HXa := Lib.hid (fun w' (h : Only [] u7 w') => h.blk hB9.out.b1 (by simp))
              have HXb := Lib.hid (fun w' (h : Only [] u7 w') => h.blk hB9.out.b0 (by simp))
              --#b
              refine wp_region_mix_lit (by kernel_rfl) [(1, .call (.agg QR))] (by kernel_rfl) (by kernel_rfl) (by kernel_rfl) (by rfl) (by simp [apartK] <;> omega) (by simp [startK]) (by simp [stabK]) (⟨fun _ => undef, by simp [okK]⟩) (fun β hβ => ?_)
              refine lex_val (v := .agg QU) rfl rfl (fun w' hf => exec_load_row _ (.tmp 10) rfl rfl (HXa.out w' hf.only) under_co rfl (by rw [hz1]; exact info_co)) ?_
              try simp only [Act.put, List.setIfInBounds_toArray, List.set_cons_zero, List.set_cons_succ]
              refine lex_call (f := 13) (args := ?_) rfl rfl (fun w' hf => ?_) (fun w' hf => ?_) ?_
              rotate_left
              · go_simp
                try rfl
              · exact HTk.out w'
              try simp only [Act.put, List.setIfInBounds_toArray, List.set_cons_zero, List.set_cons_succ]
              refine lex_val (v := .agg QR) rfl rfl (fun w' hf => exec_load_row _ (.tmp 12) rfl rfl (HXb.out w' hf.only) under_cr rfl (by rw [hz2]; exact info_cr)) ?_
              try simp only [Act.put, List.setIfInBounds_toArray, List.set_cons_zero, List.set_cons_succ]
              refine lex_val (v := .bool false) rfl rfl (fun w' hf => exec_eqA .neq _ (.tmp 58) (.tmp 59) _ rfl rfl rfl (G2.out w' _ _ _) (E2.out w')) ?_
              try simp only [Act.put, List.setIfInBounds_toArray, List.set_cons_zero, List.set_cons_succ]
              --#c
              repeat (
                refine lex_val (v := ?_) rfl rfl (fun w' hf => ?_) ?_
                rotate_left
                · go_simp
                  try rfl
                try simp only [Act.put, List.setIfInBounds_toArray, List.set_cons_zero, List.set_cons_succ])
              try (refine lex_skip rfl rfl ?_; try simp only [Act.put, List.setIfInBounds_toArray, List.set_cons_zero, List.set_cons_succ])
              try (refine lex_skip rfl rfl ?_; try simp only [Act.put, List.setIfInBounds_toArray, List.set_cons_zero, List.set_cons_succ])
              repeat (
                refine lex_val (v := ?_) rfl rfl (fun w' hf => ?_) ?_
                rotate_left
                · go_simp
                  try rfl
                try simp only [Act.put, List.setIfInBounds_toArray, List.set_cons_zero, List.set_cons_succ])
              refine lex_nil fun u8 he9 => ?_
              have hBa := Lib.hid (hB9.out.only he9.only)
              clear he9 hβ HXa HXb hB9
              --#d
              go_wp2_with fail
              --#e
              go_roundw
              case rel => exact ⟨k + 1, by omega, by simp, hBa.out.tl.tl⟩
              case measure => simp [intOf]; omega
          · obtain rfl : k = 2 := by omega
            clear HSc HTo E1 G1 HTx hT hF hBl HOw'
            go_wp2_with fail
            go_ret
            exact ⟨rfl, hB.out.bel⟩

set_option maxRecDepth 100000 in
/-- What the walk gives, for every argument and every world that holds the table. -/
theorem contract (H : Type) (enc : TypeId × Value → H) (W : World) (base : Nat) (args : Array Value) (ds gs : List (DataW H)) (before : List MemPlace)
    (hval : ∀ (j : Nat) t v, Tryz.f3.params[j]? = some t → args[j]? = some v → Value.okWide Tryz.prog W .any base t v)
    (hW : DataW.Whole enc Tryz.prog Tryz.f3.params.toList Rows.stateCursorsSpec.vars false W args.toList ds gs before) (hL : laidMetH Tryz.prog Rows.stateCursorsRow.laid W)
    (hreach : (DataW.weightsEach Tryz.prog (Tryz.f3.params.toList ++ []) (ds ++ gs)).all (· ≤ reachBytes) = true) :
    Calls Tryz.prog 3 args W fun e W' => ∃ v, e = .returned v ∧ Rows.stateCursorsSpec.post enc Tryz.prog Tryz.f3 false true false false W args v W' := by
  have hW' := hW
  have ht := tabSz hL
  have hs := facesSz hL
  have hn := tenSz hL
  have hm := modsSz hL
  have hb := blanksSz hL
  have hlts : ∀ x ∈ before, x.block < W.heap.size := fun x hx => hW'.lt x hx
  obtain ⟨p, q, hA0, hV, rfl, hfz, hnd⟩ := hW
  have hA : DataW.TrodAll enc Tryz.prog W 0 (fun _ => true) true Tryz.f3.params.toList args.toList ds p := hA0
  rw [Tryz.params3] at hA hval hreach
  obtain ⟨v0, vs0, d0, ds0, pp0, qq0, hargs, rfl, rfl, h0, rr0⟩ := trodAll_cons hA
  obtain ⟨v1, vs1, d1, ds1, pp1, qq1, rfl, rfl, rfl, h1, rr1⟩ := trodAll_cons rr0
  obtain ⟨v2, vs2, d2, ds2, pp2, qq2, rfl, rfl, rfl, h2, rr2⟩ := trodAll_cons rr1
  obtain ⟨rfl, rfl, rfl⟩ := trodAll_nil rr2
  obtain rfl : args = #[v0, v1, v2] := by cases args; simp_all
  obtain ⟨rfl, rfl⟩ := trodVars_none hV
  obtain ⟨x0, mz0, rfl, lo0, hi0⟩ := core_in (hval 0 33 v0 rfl rfl) h0
  obtain ⟨x1, mz1, rfl, lo1, hi1⟩ := core_in (hval 1 33 v1 rfl rfl) h1
  obtain ⟨s2, rfl, rfl, rfl, hs2⟩ := open_string Tryz.underlying9 (hval 2 9 v2 rfl rfl) h2
  clear hA0
  refine (walk x0 mz0 lo0 hi0 x1 mz1 lo1 hi1 s2 hs2 W ht hs hn hm hb).mono fun e W' ⟨he, hb⟩ => ?_
  subst he
  exact ⟨_, rfl, post_law laidOut (by kernel_rfl) (by kernel_rfl) rfl hW' rfl hb⟩

set_option maxRecDepth 100000 in
theorem laid_met (os : Os) : laidMet Tryz.prog Rows.stateCursorsRow.laid ((laidWorldSz os).forCall (fun _ _ => 0) ⟨#[], #[Value.agg #[.int .i64 0, .int .i64 0, .int .u8 0, .bool false, .bool false, .bool false, .int .i64 0, .int .i64 0, .int .i64 0, .int .i64 0, .int .i64 0, .int .i64 0, .int .i64 0, .int .i64 0, .int .i64 0, .int .i64 0, .int .i64 0, .int .i64 0, .int .i64 0, .int .i64 0, .int .i64 0, .int .i64 0, .int .i64 0, .bool false, .bool false, .int .i64 0, .bool false, .int .i64 0, .int .i64 0], Value.agg #[.int .i64 0, .int .i64 0, .int .u8 0, .bool false, .bool false, .bool false, .int .i64 0, .int .i64 0, .int .i64 0, .int .i64 0, .int .i64 0, .int .i64 0, .int .i64 0, .int .i64 0, .int .i64 0, .int .i64 0, .int .i64 0, .int .i64 0, .int .i64 0, .int .i64 0, .int .i64 0, .int .i64 0, .int .i64 0, .bool false, .bool false, .int .i64 0, .bool false, .int .i64 0, .int .i64 0], Value.string ⟨#[]⟩], []⟩).memory :=
  laid_metSz os _
set_option maxRecDepth 100000 in
theorem reads (os : Os) {H : Type} (enc : TypeId × Value → H) : ∃ places, DataW.whole enc Tryz.prog ((laidWorldSz os).forCall (fun _ _ => 0) ⟨#[], #[Value.agg #[.int .i64 0, .int .i64 0, .int .u8 0, .bool false, .bool false, .bool false, .int .i64 0, .int .i64 0, .int .i64 0, .int .i64 0, .int .i64 0, .int .i64 0, .int .i64 0, .int .i64 0, .int .i64 0, .int .i64 0, .int .i64 0, .int .i64 0, .int .i64 0, .int .i64 0, .int .i64 0, .int .i64 0, .int .i64 0, .bool false, .bool false, .int .i64 0, .bool false, .int .i64 0, .int .i64 0], Value.agg #[.int .i64 0, .int .i64 0, .int .u8 0, .bool false, .bool false, .bool false, .int .i64 0, .int .i64 0, .int .i64 0, .int .i64 0, .int .i64 0, .int .i64 0, .int .i64 0, .int .i64 0, .int .i64 0, .int .i64 0, .int .i64 0, .int .i64 0, .int .i64 0, .int .i64 0, .int .i64 0, .int .i64 0, .int .i64 0, .bool false, .bool false, .int .i64 0, .bool false, .int .i64 0, .int .i64 0], Value.string ⟨#[]⟩], []⟩).memory Tryz.f3.params.toList Rows.stateCursorsSpec.vars false (#[Value.agg #[.int .i64 0, .int .i64 0, .int .u8 0, .bool false, .bool false, .bool false, .int .i64 0, .int .i64 0, .int .i64 0, .int .i64 0, .int .i64 0, .int .i64 0, .int .i64 0, .int .i64 0, .int .i64 0, .int .i64 0, .int .i64 0, .int .i64 0, .int .i64 0, .int .i64 0, .int .i64 0, .int .i64 0, .int .i64 0, .bool false, .bool false, .int .i64 0, .bool false, .int .i64 0, .int .i64 0], Value.agg #[.int .i64 0, .int .i64 0, .int .u8 0, .bool false, .bool false, .bool false, .int .i64 0, .int .i64 0, .int .i64 0, .int .i64 0, .int .i64 0, .int .i64 0, .int .i64 0, .int .i64 0, .int .i64 0, .int .i64 0, .int .i64 0, .int .i64 0, .int .i64 0, .int .i64 0, .int .i64 0, .int .i64 0, .int .i64 0, .bool false, .bool false, .int .i64 0, .bool false, .int .i64 0, .int .i64 0], Value.string ⟨#[]⟩] : Array Value).toList 8 = some ([.agg [.agg [.lit (.int .i64 0), .lit (.int .i64 0), .lit (.int .u8 0), .lit (.bool false), .lit (.bool false), .lit (.bool false), .agg [.agg [.lit (.int .i64 0), .lit (.int .i64 0), .lit (.int .i64 0), .lit (.int .i64 0)], .lit (.int .i64 0), .lit (.int .i64 0), .lit (.int .i64 0)]], .agg [.agg [.lit (.int .i64 0), .lit (.int .i64 0), .lit (.int .i64 0), .lit (.int .i64 0)], .agg [.lit (.int .i64 0), .lit (.int .i64 0), .lit (.int .i64 0), .lit (.int .i64 0)]], .lit (.int .i64 0), .lit (.int .i64 0), .lit (.bool false), .lit (.bool false), .lit (.int .i64 0), .lit (.bool false), .lit (.int .i64 0), .lit (.int .i64 0)], .agg [.agg [.lit (.int .i64 0), .lit (.int .i64 0), .lit (.int .u8 0), .lit (.bool false), .lit (.bool false), .lit (.bool false), .agg [.agg [.lit (.int .i64 0), .lit (.int .i64 0), .lit (.int .i64 0), .lit (.int .i64 0)], .lit (.int .i64 0), .lit (.int .i64 0), .lit (.int .i64 0)]], .agg [.agg [.lit (.int .i64 0), .lit (.int .i64 0), .lit (.int .i64 0), .lit (.int .i64 0)], .agg [.lit (.int .i64 0), .lit (.int .i64 0), .lit (.int .i64 0), .lit (.int .i64 0)]], .lit (.int .i64 0), .lit (.int .i64 0), .lit (.bool false), .lit (.bool false), .lit (.int .i64 0), .lit (.bool false), .lit (.int .i64 0), .lit (.int .i64 0)], .lit (.string [])], [], places) :=
  ⟨[], by kernel_rfl⟩

set_option maxRecDepth 100000 in
theorem lifted (os : Os) (started : os.Started) (H : Type) (enc : TypeId × Value → H) (F : Stop.Interp) :
    ReturnsInHanded {} Tryz.checked os 3 .any ((OpenSpec.ofChange Rows.stateCursorsSpec).preRow enc Tryz.prog Tryz.f3 Rows.stateCursorsRow.domain false Rows.stateCursorsRow.laid) (((OpenSpec.ofChange Rows.stateCursorsSpec).at F).post enc Tryz.prog Tryz.f3 false true false false) := by
  obtain ⟨places, hx⟩ := reads os enc
  refine returnsInHanded_of_row (C := Tryz.checked) (s := OpenSpec.ofChange Rows.stateCursorsSpec) own started (by kernel_rfl) Tryz.func3
    (witness_row_atRef (enc := enc) (C := Tryz.checked) false (laidWorldSz os) #[Value.agg #[.int .i64 0, .int .i64 0, .int .u8 0, .bool false, .bool false, .bool false, .int .i64 0, .int .i64 0, .int .i64 0, .int .i64 0, .int .i64 0, .int .i64 0, .int .i64 0, .int .i64 0, .int .i64 0, .int .i64 0, .int .i64 0, .int .i64 0, .int .i64 0, .int .i64 0, .int .i64 0, .int .i64 0, .int .i64 0, .bool false, .bool false, .int .i64 0, .bool false, .int .i64 0, .int .i64 0], Value.agg #[.int .i64 0, .int .i64 0, .int .u8 0, .bool false, .bool false, .bool false, .int .i64 0, .int .i64 0, .int .i64 0, .int .i64 0, .int .i64 0, .int .i64 0, .int .i64 0, .int .i64 0, .int .i64 0, .int .i64 0, .int .i64 0, .int .i64 0, .int .i64 0, .int .i64 0, .int .i64 0, .int .i64 0, .int .i64 0, .bool false, .bool false, .int .i64 0, .bool false, .int .i64 0, .int .i64 0], Value.string ⟨#[]⟩] rfl (by kernel_rfl) (by kernel_rfl) (by kernel_rfl)
      (OpenSpec.preRow_of_cond 8 hx (by kernel_rfl) (fun k hk => by cases hk) (by kernel_rfl) (laid_met os))) ?_
  intro W base args ds gs before hval hW _ _ hreach hL _ _
  exact contract H enc W base args ds gs before hval hW hL hreach

theorem said : Rows.StateCursorsSaid :=
  OpenClaim.holds_of_cond 3 Tryz.f3 rfl rfl rfl rfl rfl rfl rfl ⟨rfl, rfl, rfl, rfl, rfl⟩ rfl rfl rfl rfl rfl (by kernel_rfl) Tryz.func3 (by kernel_rfl)
    (of_decide_eq_true (by kernel_rfl)) (by unfold Func.isWrapper; first | (rw [if_pos (by decide +kernel)]; kernel_rfl) | (rw [if_neg (by decide +kernel)]; exact ⟨rfl, rfl⟩))
    (fun os started H enc _ F => by rw [OpenClaim.pre_eq_preRow]; exact lifted os started H enc F)

theorem plain (f : FuncId) (fn : Func) (hf : Tryz.pinned.checked.prog.funcNamed "phosphor/phosphorlaw19.StateCursors" = some f) (hfn : Tryz.pinned.checked.prog.funcs[f]? = some fn) :
    false = Tryz.pinned.checked.prog.looks [] ∧ ∀ (j : Nat) t, fn.params[j]? = some t → Tryz.pinned.checked.prog.wantsStandIn t = false := by
  obtain rfl : f = 3 := Option.some.inj ((show Tryz.prog.funcNamed "phosphor/phosphorlaw19.StateCursors" = some 3 by kernel_rfl).symm.trans hf) |>.symm
  obtain rfl : fn = Tryz.f3 := (Option.some.inj (Tryz.func3.symm.trans hfn)).symm
  refine ⟨by kernel_rfl, fun j t ht => ?_⟩
  rw [Tryz.params3] at ht
  have hm : t ∈ [33, 33, 9] := by simpa using Array.mem_of_getElem? ht
  have hall : ([33, 33, 9].all fun u => !Tryz.prog.wantsStandIn u) = true := by kernel_rfl
  exact (show Tryz.prog.wantsStandIn t = false by simpa using List.all_eq_true.1 hall t hm)

/-- The card. -/
theorem card : Rows.StateCursorsCardSaid :=
  Claim7.holds_tied_plain_at .later [] _ _ _ _ said (fun _ h => by cases h) (by kernel_rfl) (fun _ h => by cases h) stateCursors_row_tie rfl ⟨rfl, rfl⟩ (by kernel_rfl) rfl plain (by kernel_rfl)
#print axioms card
end Go.Proofs.YtfnamfkjbkhgeaaGreatDoor.stateCursors

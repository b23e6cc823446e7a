/-
  ParamSteps holds, whatever the input: the card of the statement, with the library's three tables tied to the program's text.
-/
import Derived.Test.YtcbhdkcgmkkjmaaDoorCards
import Derived.Test.YtcbhdkcgmkkjmaaDoorTie
import Derived.Test.YtcbhdkcgmkkjmaaDoorFrameP
import Derived.Test.YtcbhdkcgmkkjmaaDoorParO
import Derived.Test.YtcbhdkcgmkkjmaaDoorMixE
namespace Go.Proofs.YtcbhdkcgmkkjmaaDoor.paramSteps
open Go.ChangeShapes Go.WideShapes Go.ChangeAt Go.RowKit
open Go.ChangeMaps (open_string)

set_option maxRecDepth 100000 in
set_option maxHeartbeats 16000000 in
theorem walk (s0 : ByteArray) (hs0 : s0.size ≤ maxLen) (cl : Int) (w : World) (ht : Ten w) :
    Calls Tryd.prog 3 #[.string s0, .int .i64 cl] w fun e w' => e = .returned (.bool true) ∧ Below w.heap.size w w' := by
  unfold maxLen at hs0
  obtain ⟨s, hss, hcase⟩ : ∃ t : ByteArray, t.size ≤ 500 ∧ ((s0 = t ∧ ¬ 500 < s0.size) ∨ (s0.extract 0 500 = t ∧ 500 < s0.size)) := by
    by_cases h : 500 < s0.size
    · exact ⟨_, by simp; omega, .inr ⟨rfl, h⟩⟩
    · exact ⟨_, by omega, .inl ⟨rfl, h⟩⟩
  have HZ := Lib.hid hss
  have HC := Lib.hid (fun g fs W h => clear_any g fs W h)
  have HP := Lib.hid (fun p h1 h2 W => refParseB_any p h1 h2 W)
  have HL := Lib.hid (fun g fs W h => list_any g fs W h)
  have HS := Lib.hid (fun A B c d (p : List UInt8) W h1 h2 => sameInts_any A B c d (numsOf p) (numsOf p) (by have := ints_len30 p; unfold maxLen; omega) (by have := ints_len30 p; unfold maxLen; omega) W h1 h2)
  simp only [beq_self_eq_true] at HS
  have HBl := Lib.hid (fun (k : Nat) (hk : k < s.size) => (by have := s[k].toNat_lt; omega : s[k].toNat < 256))
  go_enter Tryd.func3, Tryd.ntmps3
  go_wp2_with fail
  refine (awakeP_any _ ht).mono ?_
  rintro e w1 ⟨rfl, hb1⟩
  have HB1 := Lib.hid hb1
  clear hb1
  go_upto_if 25 with fail
  go_cut [0] (fun u wx => u = .string s ∧ wx = w1)
  case first =>
    rcases hcase with ⟨rfl, hlen⟩ | ⟨he, hlen⟩
    all_goals
      go_wp2_with fail
      go_meet
      exact ⟨by first | rfl | exact congrArg Value.string he, rfl⟩
  case rest =>
  obtain ⟨rfl, rfl⟩ := hcut
  clear hcase hs0 hss
  have hal := (Below.refl wc.heap.size wc).alloc (Nat.le_refl _) (.cells (accCells []) 25)
  have HPS : Hid (PS w wc.heap.size (.slice none 0 0) [] [] (wc.alloc (.cells (accCells []) 25))) := Lib.hid ⟨HB1.out.trans (hal.mono HB1.out.size), HB1.out.size, Blk.new _ _ _, obyt_nil _ _⟩
  clear hal HB1
  go_upto_region 6 with fail
  change Hid (PS w wc.heap.size (.slice none 0 0) [] [] (wc.alloc (.cells #[.int .i64 0, .int .i64 0, .int .i64 0, .int .i64 0, .int .i64 0, .int .i64 0, .int .i64 0, .int .i64 0, .int .i64 0, .int .i64 0, .int .i64 0, .int .i64 0, .int .i64 0, .int .i64 0, .int .i64 0, .int .i64 0, .int .i64 0, .int .i64 0, .int .i64 0, .int .i64 0, .int .i64 0, .int .i64 0, .int .i64 0, .int .i64 0, .int .i64 0, .int .i64 0, .int .i64 0, .int .i64 0, .int .i64 0, .int .i64 0, .int .i64 0] 25))) at HPS
  generalize wc.alloc (.cells #[.int .i64 0, .int .i64 0, .int .i64 0, .int .i64 0, .int .i64 0, .int .i64 0, .int .i64 0, .int .i64 0, .int .i64 0, .int .i64 0, .int .i64 0, .int .i64 0, .int .i64 0, .int .i64 0, .int .i64 0, .int .i64 0, .int .i64 0, .int .i64 0, .int .i64 0, .int .i64 0, .int .i64 0, .int .i64 0, .int .i64 0, .int .i64 0, .int .i64 0, .int .i64 0, .int .i64 0, .int .i64 0, .int .i64 0, .int .i64 0, .int .i64 0] 25) = W2 at *
  generalize wc.heap.size = ga at *
  go_wp2_with fail
  go_loopw [6, 7] (fun tk i wr => ∃ (k : Nat) (p : List UInt8), k ≤ s.size ∧ i = .int .i64 k ∧ p.length ≤ k ∧ OkB p ∧ PS w ga tk (fieldsOf p) p wr) (fun _ i _ => s.size - (intOf i).toNat)
  case atStart => exact ⟨0, [], by omega, rfl, Nat.le_refl _, (fun b hb => by simp at hb), HPS.out⟩
  case round =>
    obtain ⟨k, p, hk, rfl, hpk, hok, hps⟩ := hrel
    have HPK := Lib.hid hpk; have HOk := Lib.hid hok; have HPs := Lib.hid hps
    clear hpk hok hps HPS
    by_cases hlt : k < s.size
    · have hc256 := HBl.out k hlt
      go_upto_if 36 with fail
      go_cut [6] (fun u wx => ∃ q : List UInt8, q.length ≤ k ∧ OkB q ∧ PS w ga u (fieldsOf q) q wx)
      case first =>
        by_cases hcl : (k : Int) = cl
        · have hq : ((k : Int) == cl) = true := by simpa using hcl
          have HCl := Lib.hid (HC.out ga _ wr HPs.out.acc)
          clear hcl
          go_wp2_with fail
          refine HCl.out.mono ?_
          rintro e w3 ⟨rfl, ha, hg⟩
          have HF := Lib.hid (HPs.out.clear ha hg)
          clear ha hg
          go_wp2_with fail
          go_meet
          exact ⟨[], Nat.zero_le _, (fun b hb => by simp at hb), HF.out⟩
        · have hq : ((k : Int) == cl) = false := by simpa using hcl
          clear hcl
          go_wp2_with fail
          go_meet
          exact ⟨p, HPK.out, HOk.out, HPs.out⟩
      case rest =>
        obtain ⟨q, hqk, hok, hps⟩ := hcut
        have HQK := Lib.hid hqk; have HOq := Lib.hid hok; have HPq := Lib.hid hps
        clear hqk hok hps HPs HOk HPK
        have hb0 : okb s[k] = true ∨ okb s[k] = false := by cases okb s[k] <;> simp
        --#1
        go_upto_region 13 with fail
        go_cut [8] (fun u wx => u = .bool (okb s[k]) ∧ PS w ga u6 (if okb s[k] = true then stepF (fieldsOf q) s[k] else fieldsOf q) q wx)
        case first =>
          rcases hb0 with hb | hb
          · have HY := Lib.hid (byte_yes ga (fieldsOf q) s[k] hb (fieldsOf_range HOq.out) wc HPq.out.acc)
            have HB := Lib.hid hb
            clear hb
            go_wp2_with fail
            refine HY.out.mono ?_
            rintro e w3 ⟨rfl, ha, hg⟩
            have HF := Lib.hid (HPq.out.byte ha hg)
            clear ha hg
            go_wp2_with fail
            go_meet
            exact ⟨by rw [HB.out], by rw [if_pos HB.out]; exact HF.out⟩
          · have HY := Lib.hid (byte_no ga s[k] hb wc)
            have HB := Lib.hid hb
            clear hb
            go_wp2_with fail
            refine HY.out.mono ?_
            rintro e w3 ⟨rfl, rfl⟩
            go_wp2_with fail
            go_meet
            exact ⟨by rw [HB.out], by rw [if_neg (by rw [HB.out]; simp)]; exact HPq.out⟩
        case rest =>
        obtain ⟨rfl, hps⟩ := hcut
        obtain ⟨ob, hob⟩ : ∃ ob, ob = okb s[k] := ⟨_, rfl⟩
        rw [← hob] at hps hb0 ⊢
        have HPr := Lib.hid hps
        have hobn := okb_nat s[k]
        rw [← hob] at hobn
        have HOb := Lib.hid hob
        clear hps HPq hob
        go_upto_region 14 with fail
        go_cut [59] (fun u wx => u = .bool false ∧ wx = wc)
        case first =>
          clear hb0 HOb
          have HOn := Lib.hid hobn
          clear hobn
          rcases h1 : decide (s[k].toNat = 59) with _ | _
          · have q1 := nb59 _ _ h1
            rcases h2 : decide (48 ≤ s[k].toNat) with _ | _
            · have q2 := nb48 _ _ h2
              obtain rfl : ob = false := by rw [HOn.out, h1, h2]; rfl
              clear h1 h2 HOn
              go_wp2_with fail
              go_meet
              exact ⟨rfl, rfl⟩
            · have q2 := nb48 _ _ h2
              rcases h3 : decide (s[k].toNat ≤ 57) with _ | _
              · have q3 := nb57 _ _ h3
                obtain rfl : ob = false := by rw [HOn.out, h1, h2, h3]; rfl
                clear h1 h2 h3 HOn
                go_wp2_with fail
                go_meet
                exact ⟨rfl, rfl⟩
              · have q3 := nb57 _ _ h3
                obtain rfl : ob = true := by rw [HOn.out, h1, h2, h3]; rfl
                clear h1 h2 h3 HOn
                go_wp2_with fail
                go_meet
                exact ⟨rfl, rfl⟩
          · have q1 := nb59 _ _ h1
            obtain rfl : ob = true := by rw [HOn.out, h1]; rfl
            clear h1 HOn
            go_wp2_with fail
            go_meet
            exact ⟨rfl, rfl⟩
        case rest =>
        obtain ⟨rfl, rfl⟩ := hcut
        go_upto_if 60 with fail
        go_cut [6] (fun u wx => ∃ q : List UInt8, q.length ≤ k + 1 ∧ OkB q ∧ PS w ga u (fieldsOf q) q wx)
        case first =>
          rcases hb0 with hb | hb
          · subst hb
            rw [if_pos rfl] at HPr
            clear hobn
            have HFs := Lib.hid (fieldsOf_snoc q s[k])
            have HOk2 : Hid (OkB (q ++ [s[k]])) := Lib.hid (fun b hb => by
              rcases List.mem_append.1 hb with hb | hb
              · exact HOq.out b hb
              · simp only [List.mem_singleton] at hb
                rw [hb]; exact HOb.out.symm)
            go_wp2_with (at_builtin; refine wpList_push rfl _ _ _ rfl (ga + 1) 5 (.int .u8 0) 1 Tryd.underlying26 info_byte rfl _ _ _ rfl (obyt_own HPr.out.own) (.int .u8 (s[k].toNat : Int)) rfl _ _ _ rfl rfl (by have := HQK.out; have := HZ.out; have := natL_len q; unfold maxLen; omega) (by have := HQK.out; have := HZ.out; have := natL_len q; omega) HPr.out.lt ?_; intro v6 w6 hown6 hg6 hb6; have HF := Lib.hid (HPr.out.push s[k] hown6 hb6); clear hown6 hg6 hb6)
            go_meet
            exact ⟨q ++ [s[k]], by have := HQK.out; simp; omega, HOk2.out, by rw [HFs.out]; exact HF.out⟩
          · subst hb
            rw [if_neg (by simp)] at HPr
            clear hobn
            go_wp2_with fail
            go_meet
            exact ⟨q, by have := HQK.out; omega, HOq.out, HPr.out⟩
        case rest =>
        obtain ⟨q2, hqk, hok, hps⟩ := hcut
        have HQ2 := Lib.hid hqk; have HO2 := Lib.hid hok; have HP2 := Lib.hid hps
        clear hqk hok hps HPr HQK HOq HOb hb0 hobn hc256
        obtain ⟨A2, c2, h6⟩ := HP2.out.own.form
        have hcv := conv_by (HP2.out.own.reads' h6) c2
        rw [h6]
        have HPp := Lib.hid (HP.out q2 HO2.out (by have := HQ2.out; have := HZ.out; omega))
        have HLp := Lib.hid (fun W h => HL.out ga (fieldsOf q2) W h)
        have HSp := Lib.hid (fun A B c d W h1 h2 => HS.out A B c d q2 W h1 h2)
        have HNl := Lib.hid (ints_len30 q2)
        change Hid (∀ (W : World), Acc W ga (fieldsOf q2) → Calls Tryd.prog 8 #[.pointer (some ⟨ga, 0, none⟩)] W fun e w' => ∃ v, e = .returned v ∧ OInts w' W.heap.size v (numsOf q2) ∧ Below W.heap.size W w') at HLp
        generalize bstr (natL q2) = st at *
        generalize numsOf q2 = ns at *
        --#3
        go_upto_region 18 with fail
        go_wp2_with fail
        refine (HPp.out _).mono ?_
        rintro e w4 ⟨Aw, cw, rfl, hrw, hb4⟩
        have HP4 := Lib.hid (HP2.out.next hb4)
        clear hb4 hcv
        go_wp2_with fail
        refine (HLp.out _ HP4.out.acc).mono ?_
        rintro e w5 ⟨v5, rfl, ho5, hb5⟩
        obtain ⟨Al, c5, rfl⟩ := ho5.form
        have HO5 := Lib.hid ho5; have HB5 := Lib.hid hb5; have HR5 := Lib.hid (hrw.next hb5)
        clear ho5 hb5 hrw
        go_wp2_with fail
        refine (HSp.out Al Aw c5 cw _ HO5.out.reads HR5.out).mono ?_
        rintro e w6 ⟨rfl, hb6⟩
        have HO6 : Hid (OInts w6 w4.heap.size (.slice Al ns.length c5) ns) := Lib.hid (OInts.nextO HO5.out hb6)
        have HB6 := Lib.hid (HB5.out.trans (hb6.mono HB5.out.size))
        clear hb6 HO5 HB5 HR5
        have hnl := HNl.out
        go_wp2_with fail
        go_loopw [80] (fun i wr => ∃ (j : Nat) (zs : List Int), j ≤ ns.length ∧ i = .int .i64 j ∧ zs.length = ns.length ∧ OInts wr w4.heap.size (.slice Al ns.length c5) zs ∧ Below w4.heap.size w4 wr) (fun i _ => ns.length - (intOf i).toNat)
        case atStart => exact ⟨0, ns, by omega, rfl, rfl, HO6.out, HB6.out⟩
        case round =>
          obtain ⟨j, zs, hj, rfl, hzl, hoz, hbz⟩ := hrel
          have HOz := Lib.hid hoz; have HBz := Lib.hid hbz; have HZl := Lib.hid hzl
          clear hoz hbz hzl HO6 HB6
          by_cases hjl : j < ns.length
          · obtain ⟨g, cap, hv, hgB, _⟩ := World.ownsRow.form (oints_own HOz.out) (by rw [HZl.out]; omega)
            simp only [Value.slice.injEq] at hv
            obtain ⟨rfl, -, rfl⟩ := hv
            have hfz := World.ownsRow.frozenAt (n := ns.length) (oints_own' HOz.out HZl.out) j
            have hcl : wr.cell? ⟨g, j, none⟩ = some (.int .i64 (zs[j]'(by rw [HZl.out]; exact hjl))) := by
              rw [World.ownsRow.cellAt (n := ns.length) (oints_own' HOz.out HZl.out) _ (by omega)]
              simp [List.getElem?_eq_getElem (show j < zs.length by rw [HZl.out]; exact hjl)]
            have HO7 := Lib.hid (OInts.setO HOz.out HZl.out.symm j (-7))
            have HB7 := Lib.hid (HBz.out.setCell (p := ⟨g, j, none⟩) hgB (.int .i64 (-7)))
            go_wp2_with fail
            go_roundw
            case rel => exact ⟨j + 1, zs.set j (-7), by omega, by go_num, by rw [List.length_set]; exact HZl.out, HO7.out, HB7.out⟩
            case measure => simp [intOf]; omega
          · obtain rfl : j = ns.length := by omega
            have HP8 := Lib.hid (HP4.out.next HBz.out)
            have hz := HZ.out
            go_wp2_with fail
            go_roundw
            case rel => exact ⟨k + 1, q2, by omega, by go_num, HQ2.out, HO2.out, h6 ▸ HP8.out⟩
            case measure => simp [intOf]; omega
    · have hpl : p.length ≤ 500 := by have := HPK.out; have := HZ.out; omega
      have HPL := Lib.hid hpl
      clear hpl
      obtain ⟨A2, c2, h6⟩ := HPs.out.own.form
      have HRb := Lib.hid (HPs.out.own.reads' h6)
      have hcv := conv_by HRb.out c2
      have HPp := Lib.hid (HP.out p HOk.out (by have := HPL.out; omega))
      have HSp := Lib.hid (fun A B c d W h1 h2 => HS.out A B c d p W h1 h2)
      have HNl := Lib.hid (ints_len30 p)
      rw [h6]
      go_upto_region 27 with fail
      go_wp2_with fail
      refine (HPp.out _).mono ?_
      rintro e w7 ⟨Aw, cw, rfl, hrw, hb7⟩
      have HP7 := Lib.hid (HPs.out.next hb7); have HB7 := Lib.hid (HRb.out.next hb7); have HR7 := Lib.hid hrw
      clear hb7 hcv hrw
      have HCn := Lib.hid (clone_any ga _ w7 HP7.out.acc)
      go_wp2_with fail
      refine HCn.out.mono ?_
      rintro e w8 ⟨gb, rfl, hgb, hab, hb8⟩
      have hal := (Below.refl w8.heap.size w8).alloc (Nat.le_refl _) (.cells #[.int .i64 0, .int .i64 0, .int .i64 0, .int .i64 0, .int .i64 0, .int .i64 0, .int .i64 0, .int .i64 0, .int .i64 0, .int .i64 0, .int .i64 0, .int .i64 0, .int .i64 0, .int .i64 0, .int .i64 0, .int .i64 0, .int .i64 0, .int .i64 0, .int .i64 0, .int .i64 0, .int .i64 0, .int .i64 0, .int .i64 0, .int .i64 0, .int .i64 0, .int .i64 0, .int .i64 0, .int .i64 0, .int .i64 0, .int .i64 0, .int .i64 0] 25)
      have HAb := Lib.hid (Blk.next (show Blk w8 gb _ _ from hab) hal)
      have HAc : Hid (Acc (w8.alloc (.cells #[.int .i64 0, .int .i64 0, .int .i64 0, .int .i64 0, .int .i64 0, .int .i64 0, .int .i64 0, .int .i64 0, .int .i64 0, .int .i64 0, .int .i64 0, .int .i64 0, .int .i64 0, .int .i64 0, .int .i64 0, .int .i64 0, .int .i64 0, .int .i64 0, .int .i64 0, .int .i64 0, .int .i64 0, .int .i64 0, .int .i64 0, .int .i64 0, .int .i64 0, .int .i64 0, .int .i64 0, .int .i64 0, .int .i64 0, .int .i64 0, .int .i64 0] 25)) w8.heap.size (fieldsOf [])) := Lib.hid (Blk.new _ _ _)
      have HB9 := Lib.hid (hb8.trans (hal.mono hb8.size))
      have HGb := Lib.hid (And.intro hgb (Blk.lt (show Blk w8 gb _ _ from hab)))
      have hs8 := hb8.size
      have HS8 := Lib.hid hs8
      clear hal hb8 hab hgb hs8
      go_upto_region 30 with fail
      generalize w8.alloc (.cells #[.int .i64 0, .int .i64 0, .int .i64 0, .int .i64 0, .int .i64 0, .int .i64 0, .int .i64 0, .int .i64 0, .int .i64 0, .int .i64 0, .int .i64 0, .int .i64 0, .int .i64 0, .int .i64 0, .int .i64 0, .int .i64 0, .int .i64 0, .int .i64 0, .int .i64 0, .int .i64 0, .int .i64 0, .int .i64 0, .int .i64 0, .int .i64 0, .int .i64 0, .int .i64 0, .int .i64 0, .int .i64 0, .int .i64 0, .int .i64 0, .int .i64 0] 25) = w9 at *
      generalize w8.heap.size = gc at *
      go_wp2_with fail
      --#4
      rw [natL_len]
      go_loopw [96] (fun i wr => ∃ j : Nat, j ≤ p.length ∧ i = .int .i64 j ∧ Acc wr gc (fieldsOf (p.take j)) ∧ Below gc w9 wr) (fun i _ => p.length - (intOf i).toNat)
      case atStart => exact ⟨0, by omega, rfl, by rw [List.take_zero]; exact HAc.out, (Below.refl _ _)⟩
      case round =>
        obtain ⟨j, hj, rfl, hac, hbc⟩ := hrel
        have HJc := Lib.hid hac; have HBc := Lib.hid hbc
        clear hac hbc
        have HBx := Lib.hid (HB9.out.trans (HBc.out.mono HS8.out))
        by_cases hjl : j < p.length
        · obtain ⟨ad, rfl, _, hcell⟩ := (HB7.out.next HBx.out).at_ (k := j) (by rw [natL_len]; exact hjl)
          rw [natL_at p j hjl (by rw [natL_len]; exact hjl)] at hcell
          have HY := Lib.hid (byte_yes gc (fieldsOf (p.take j)) p[j] (HOk.out _ (List.getElem_mem _)) (fieldsOf_range (fun b hb => HOk.out b (List.mem_of_mem_take hb))) wr HJc.out)
          have HSt : Hid (fieldsOf (p.take (j + 1)) = stepF (fieldsOf (p.take j)) p[j]) := Lib.hid (by rw [take_snoc p j hjl, fieldsOf_snoc])
          have hpl := HPL.out
          go_wp2_with fail
          refine HY.out.mono ?_
          rintro e w10 ⟨rfl, ha, hg⟩
          have HN := Lib.hid (And.intro ha (HBc.out.grown hg (Nat.le_of_lt (Blk.lt (show Blk wr gc _ _ from HJc.out))) (fun k hk => Nat.le_of_eq (Option.some.inj hk))))
          clear ha hg hcell
          go_wp2_with fail
          go_roundw
          case rel => exact ⟨j + 1, by omega, by go_num, by rw [HSt.out]; exact HN.out.1, HN.out.2⟩
          case measure => simp [intOf]; omega
        · obtain rfl : j = p.length := by omega
          have HAc2 : Hid (Acc wr gc (fieldsOf p)) := Lib.hid (by have := HJc.out; rw [List.take_length] at this; exact this)
          have HAb2 := Lib.hid (Blk.below HAb.out HBc.out HGb.out.2)
          have HP10 := Lib.hid (HP7.out.next HBx.out); have HR10 := Lib.hid (HR7.out.next HBx.out)
          have HLp : Hid (∀ W, Acc W ga (fieldsOf p) → Calls Tryd.prog 8 #[.pointer (some ⟨ga, 0, none⟩)] W fun e w' => ∃ v, e = .returned v ∧ OInts w' W.heap.size v (numsOf p) ∧ Below W.heap.size W w') := Lib.hid (fun W h => HL.out ga (fieldsOf p) W h)
          have HLb : Hid (∀ W, Acc W gb (fieldsOf p) → Calls Tryd.prog 8 #[.pointer (some ⟨gb, 0, none⟩)] W fun e w' => ∃ v, e = .returned v ∧ OInts w' W.heap.size v (numsOf p) ∧ Below W.heap.size W w') := Lib.hid (fun W h => HL.out gb (fieldsOf p) W h)
          have HEq : Hid (∀ g h W, Acc W g (fieldsOf p) → Acc W h (fieldsOf p) → Calls Tryd.prog 11 #[.pointer (some ⟨g, 0, none⟩), .pointer (some ⟨h, 0, none⟩)] W fun e w' => e = .returned (.bool true) ∧ Below W.heap.size W w') := Lib.hid (fun g h W h1 h2 => by
            have := accSame_any g h (fieldsOf p) (fieldsOf p) W h1 h2
            rw [sameF_self] at this
            exact this)
          go_upto_region 35 with fail
          go_wp2_with fail
          refine (HLp.out _ HP10.out.acc).mono ?_
          rintro e x1 ⟨v1, rfl, ho1, hx1⟩
          obtain ⟨B0, d0, rfl⟩ := ho1.form
          have HD1 := Lib.hid hx1; have HR1 := Lib.hid ho1.reads
          clear ho1 hx1
          go_wp2_with fail
          refine (HSp.out B0 Aw d0 cw _ HR1.out (HR10.out.next HD1.out)).mono ?_
          rintro e x2 ⟨rfl, hx2⟩
          have HD2 := Lib.hid (HD1.out.trans (hx2.mono HD1.out.size))
          clear hx2 HD1 HR1
          go_wp2_with fail
          refine (HLb.out _ (Blk.next HAb2.out HD2.out)).mono ?_
          rintro e x3 ⟨v3, rfl, ho3, hx3⟩
          obtain ⟨B6, d6, rfl⟩ := ho3.form
          have HD3 := Lib.hid (HD2.out.trans (hx3.mono HD2.out.size)); have HR3 := Lib.hid ho3.reads
          clear ho3 hx3 HD2
          go_wp2_with fail
          refine (HSp.out B6 Aw d6 cw _ HR3.out (HR10.out.next HD3.out)).mono ?_
          rintro e x4 ⟨rfl, hx4⟩
          have HD4 := Lib.hid (HD3.out.trans (hx4.mono HD3.out.size))
          clear hx4 HD3 HR3
          go_wp2_with fail
          refine (HEq.out ga gb _ (Blk.next HP10.out.acc HD4.out) (Blk.next HAb2.out HD4.out)).mono ?_
          rintro e x5 ⟨rfl, hx5⟩
          have HD5 := Lib.hid (HD4.out.trans (hx5.mono HD4.out.size))
          clear hx5 HD4
          go_wp2_with fail
          refine (HEq.out ga gc _ (Blk.next HP10.out.acc HD5.out) (Blk.next HAc2.out HD5.out)).mono ?_
          rintro e x6 ⟨rfl, hx6⟩
          have HD6 := Lib.hid (HD5.out.trans (hx6.mono HD5.out.size))
          clear hx6 HD5
          go_wp2_with fail
          refine (HEq.out gc ga _ (Blk.next HAc2.out HD6.out) (Blk.next HP10.out.acc HD6.out)).mono ?_
          rintro e w11 ⟨rfl, hx7⟩
          have HD7 := Lib.hid (HD6.out.trans (hx7.mono HD6.out.size))
          clear hx7 HD6
          have HP11 := Lib.hid (HP10.out.next HD7.out); have HR11 := Lib.hid (HR10.out.next HD7.out)
          have HAb3 : Hid (Acc w11 gb (fieldsOf p)) := Lib.hid (Blk.next HAb2.out HD7.out)
          have HB11 := Lib.hid (HBx.out.trans (HD7.out.mono HBx.out.size))
          clear HEq HLb HSp HD7
          --#5
          have HY := Lib.hid (byte_yes gb (fieldsOf p) 55 (by decide) (fieldsOf_range HOk.out) w11 HAb3.out)
          go_wp2_with fail
          refine HY.out.mono ?_
          rintro e w12 ⟨rfl, ha, hg⟩
          have hB12 : Below w7.heap.size w7 w12 := HB11.out.grown hg HB11.out.size (fun k hk => by cases hk; exact HGb.out.1)
          have HAb4 := Lib.hid ha
          have HP12 := Lib.hid (HP7.out.next hB12); have HB12 := Lib.hid (HB7.out.next hB12); have HR12 := Lib.hid (HR7.out.next hB12)
          clear ha hg hB12 HP11 HR11 HAb3
          have hcv := conv_by HB12.out c2
          rw [natL_len] at hcv
          have hcat : ∀ W, (Op.stringOp .add (bstr (natL p)) ⟨#[55]⟩).run Tryd.prog W = .ok (.string (bstr (natL (p ++ [55])))) W := fun W => by
            rw [run_string_add_sum W _ _ (by rw [← dlen, natL_back]; have := HPL.out; show p.length + 1 ≤ _; omega), bstr_seven]
          have HPq := Lib.hid (HP.out (p ++ [55]) (fun b hb => by
            rcases List.mem_append.1 hb with hb | hb
            · exact HOk.out b hb
            · simp only [List.mem_singleton] at hb
              subst hb; decide) (by have := HPL.out; simp; omega))
          generalize bstr (natL (p ++ [55])) = st2 at *
          generalize bstr (natL p) = st1 at *
          go_upto_region 38 with fail
          go_wp2_with fail
          refine (HPq.out _).mono ?_
          rintro e w13 ⟨Am, cm, rfl, hrm, hb13⟩
          have HP13 := Lib.hid (HP12.out.next hb13); have HR13 := Lib.hid (HR12.out.next hb13); have HM13 := Lib.hid hrm
          have HAb5 := Lib.hid (Blk.next (show Blk w12 gb _ _ from HAb4.out) hb13)
          clear hb13 hrm hcv hcat HB12 HP12 HR12 HAb4
          have HLq : Hid (∀ W, Acc W gb (stepF (fieldsOf p) 55) → Calls Tryd.prog 8 #[.pointer (some ⟨gb, 0, none⟩)] W fun e w' => ∃ v, e = .returned v ∧ OInts w' W.heap.size v (numsOf (p ++ [55])) ∧ Below W.heap.size W w') := Lib.hid (fun W h => by
            have := HL.out gb (stepF (fieldsOf p) 55) W h
            rw [← fieldsOf_snoc] at this
            exact this)
          have HSa := Lib.hid (fun A B c d W h1 h2 => HS.out A B c d p W h1 h2)
          have HSb := Lib.hid (fun A B c d W h1 h2 => HS.out A B c d (p ++ [55]) W h1 h2)
          have HSc := Lib.hid (fun c d W h1 h2 => sameInts_any Aw Am c d (numsOf p) (numsOf (p ++ [55])) (by have := ints_len30 p; unfold maxLen; omega) (by have := ints_len30 (p ++ [55]); unfold maxLen; omega) W h1 h2)
          have HNo := Lib.hid (fun (h : (numsOf p == numsOf (p ++ [55])) = false) W h1 h2 => (by
            have := accSame_any ga gb (fieldsOf p) (stepF (fieldsOf p) 55) W h1 h2
            rw [same_not h] at this
            exact this : Calls Tryd.prog 11 #[.pointer (some ⟨ga, 0, none⟩), .pointer (some ⟨gb, 0, none⟩)] W fun e w' => e = .returned (.bool false) ∧ Below W.heap.size W w'))
          generalize (numsOf p == numsOf (p ++ [55])) = q at *
          --#6
          go_wp2_with fail
          refine (HLp.out _ HP13.out.acc).mono ?_
          rintro e x1 ⟨v1, rfl, ho1, hx1⟩
          obtain ⟨B0, d0, rfl⟩ := ho1.form
          have HD1 := Lib.hid hx1; have HR1 := Lib.hid ho1.reads
          clear ho1 hx1
          go_wp2_with fail
          refine (HSa.out B0 Aw d0 cw _ HR1.out (HR13.out.next HD1.out)).mono ?_
          rintro e x2 ⟨rfl, hx2⟩
          have HD2 := Lib.hid (HD1.out.trans (hx2.mono HD1.out.size))
          clear hx2 HD1 HR1
          go_wp2_with fail
          refine (HLq.out _ (Blk.next (show Blk w13 gb _ _ from HAb5.out) HD2.out)).mono ?_
          rintro e x3 ⟨v3, rfl, ho3, hx3⟩
          obtain ⟨B6, d6, rfl⟩ := ho3.form
          have HD3 := Lib.hid (HD2.out.trans (hx3.mono HD2.out.size)); have HR3 := Lib.hid ho3.reads
          clear ho3 hx3 HD2
          go_wp2_with fail
          refine (HSb.out B6 Am d6 cm _ HR3.out (HM13.out.next HD3.out)).mono ?_
          rintro e x4 ⟨rfl, hx4⟩
          have HD4 := Lib.hid (HD3.out.trans (hx4.mono HD3.out.size))
          clear hx4 HD3 HR3
          go_wp2_with fail
          refine (HSc.out cw cm _ (HR13.out.next HD4.out) (HM13.out.next HD4.out)).mono ?_
          rintro e x5 ⟨rfl, hx5⟩
          have HD5 := Lib.hid (HD4.out.trans (hx5.mono HD4.out.size))
          clear hx5 HD4
          have HF5 := Lib.hid (HP13.out.below.trans (HD5.out.mono HP13.out.below.size))
          cases q with
          | true =>
            go_wp2_with fail
            go_ret
            exact ⟨rfl, HF5.out⟩
          | false =>
            go_wp2_with fail
            refine (HNo.out (by first | rfl | trivial) _ (Blk.next HP13.out.acc HD5.out) (Blk.next (show Blk w13 gb _ _ from HAb5.out) HD5.out)).mono ?_
            rintro e x6 ⟨rfl, hx6⟩
            have HF6 := Lib.hid (HF5.out.trans (hx6.mono HF5.out.size))
            clear hx6
            go_wp2_with fail
            go_ret
            exact ⟨rfl, HF6.out⟩

set_option maxRecDepth 100000 in
/-- What the walk gives, for every argument and every world that holds the table. -/
theorem contract (H : Type) (enc : TypeId × Value → H) (W : World) (base : Nat) (args : Array Value) (ds gs : List (DataW H)) (before : List MemPlace)
    (hval : ∀ (j : Nat) t v, Tryd.f3.params[j]? = some t → args[j]? = some v → Value.okWide Tryd.prog W .any base t v)
    (hW : DataW.Whole enc Tryd.prog Tryd.f3.params.toList Rows.paramStepsSpec.vars false W args.toList ds gs before) (hL : laidMetH Tryd.prog Rows.paramStepsRow.laid W)
    (hreach : (DataW.weightsEach Tryd.prog (Tryd.f3.params.toList ++ []) (ds ++ gs)).all (· ≤ reachBytes) = true) :
    Calls Tryd.prog 3 args W fun e W' => ∃ v, e = .returned v ∧ Rows.paramStepsSpec.post enc Tryd.prog Tryd.f3 false true false false W args v W' := by
  have hW' := hW
  have ht := ten_of hL
  have hlts : ∀ x ∈ before, x.block < W.heap.size := fun x hx => hW'.lt x hx
  obtain ⟨p, q, hA0, hV, rfl, hfz, hnd⟩ := hW
  have hA : DataW.TrodAll enc Tryd.prog W 0 (fun _ => true) true Tryd.f3.params.toList args.toList ds p := hA0
  rw [Tryd.params3] at hA hval hreach
  obtain ⟨v0, vs0, d0, ds0, pp0, qq0, hargs, rfl, rfl, h0, rr0⟩ := trodAll_cons hA
  obtain ⟨v1, vs1, d1, ds1, pp1, qq1, rfl, rfl, rfl, h1, rr1⟩ := trodAll_cons rr0
  obtain ⟨rfl, rfl, rfl⟩ := trodAll_nil rr1
  obtain rfl : args = #[v0, v1] := by cases args; simp_all
  obtain ⟨rfl, rfl⟩ := trodVars_none hV
  obtain ⟨s0, rfl, rfl, rfl, hs0⟩ := open_string Tryd.underlying9 (hval 0 9 v0 rfl rfl) h0
  obtain ⟨a1, rfl, rfl, rfl, w1⟩ := open_int Tryd.underlying3 (hval 1 3 v1 rfl rfl) h1
  clear hA0
  refine (walk s0 hs0 a1 W ht).mono fun e W' ⟨he, hb⟩ => ?_
  subst he
  exact ⟨_, rfl, post_law laidOut (by kernel_rfl) (by kernel_rfl) rfl hW' rfl hb⟩

set_option maxRecDepth 100000 in
theorem laid_met (os : Os) : laidMet Tryd.prog Rows.paramStepsRow.laid ((laidWorld os).forCall (fun _ _ => 0) ⟨#[], #[Value.string ⟨#[]⟩, Value.int .i64 0], []⟩).memory :=
  laidMet_of_run' 8 (by kernel_rfl) (by kernel_rfl)
set_option maxRecDepth 100000 in
theorem reads (os : Os) {H : Type} (enc : TypeId × Value → H) : ∃ places, DataW.whole enc Tryd.prog ((laidWorld os).forCall (fun _ _ => 0) ⟨#[], #[Value.string ⟨#[]⟩, Value.int .i64 0], []⟩).memory Tryd.f3.params.toList Rows.paramStepsSpec.vars false (#[Value.string ⟨#[]⟩, Value.int .i64 0] : Array Value).toList 8 = some ([.lit (.string []), .lit (.int .i64 0)], [], places) :=
  ⟨[], by kernel_rfl⟩

set_option maxRecDepth 100000 in
theorem lifted (os : Os) (started : os.Started) (H : Type) (enc : TypeId × Value → H) (F : Stop.Interp) :
    ReturnsInHanded {} Tryd.checked os 3 .any ((OpenSpec.ofChange Rows.paramStepsSpec).preRow enc Tryd.prog Tryd.f3 Rows.paramStepsRow.domain false Rows.paramStepsRow.laid) (((OpenSpec.ofChange Rows.paramStepsSpec).at F).post enc Tryd.prog Tryd.f3 false true false false) := by
  obtain ⟨places, hx⟩ := reads os enc
  refine returnsInHanded_of_row (C := Tryd.checked) (s := OpenSpec.ofChange Rows.paramStepsSpec) own started (by kernel_rfl) Tryd.func3
    (witness_row_at (enc := enc) (C := Tryd.checked) false (laidWorld os) #[Value.string ⟨#[]⟩, Value.int .i64 0] rfl (by kernel_rfl) (by kernel_rfl) (by kernel_rfl)
      (OpenSpec.preRow_of_cond 8 hx (by kernel_rfl) (fun k hk => by cases hk) (by kernel_rfl) (laid_met os))) ?_
  intro W base args ds gs before hval hW _ _ hreach hL _ _
  exact contract H enc W base args ds gs before hval hW hL hreach

theorem said : Rows.ParamStepsSaid :=
  OpenClaim.holds_of_cond 3 Tryd.f3 rfl rfl rfl rfl rfl rfl rfl ⟨rfl, rfl, rfl, rfl, rfl⟩ rfl rfl rfl rfl rfl (by kernel_rfl) Tryd.func3 (by kernel_rfl)
    (of_decide_eq_true (by kernel_rfl)) (by unfold Func.isWrapper; first | (rw [if_pos (by decide +kernel)]; kernel_rfl) | (rw [if_neg (by decide +kernel)]; exact ⟨rfl, rfl⟩))
    (fun os started H enc _ F => by rw [OpenClaim.pre_eq_preRow]; exact lifted os started H enc F)

theorem plain (f : FuncId) (fn : Func) (hf : Tryd.pinned.checked.prog.funcNamed "phosphor/phosphorlaw04.ParamSteps" = some f) (hfn : Tryd.pinned.checked.prog.funcs[f]? = some fn) :
    false = Tryd.pinned.checked.prog.looks [] ∧ ∀ (j : Nat) t, fn.params[j]? = some t → Tryd.pinned.checked.prog.wantsStandIn t = false := by
  obtain rfl : f = 3 := Option.some.inj ((show Tryd.prog.funcNamed "phosphor/phosphorlaw04.ParamSteps" = some 3 by kernel_rfl).symm.trans hf) |>.symm
  obtain rfl : fn = Tryd.f3 := (Option.some.inj (Tryd.func3.symm.trans hfn)).symm
  refine ⟨by kernel_rfl, fun j t ht => ?_⟩
  rw [Tryd.params3] at ht
  have hm : t ∈ [9, 3] := by simpa using Array.mem_of_getElem? ht
  have hall : ([9, 3].all fun u => !Tryd.prog.wantsStandIn u) = true := by kernel_rfl
  exact (show Tryd.prog.wantsStandIn t = false by simpa using List.all_eq_true.1 hall t hm)

/-- The card. -/
theorem card : Rows.ParamStepsCardSaid :=
  Claim7.holds_tied_plain_at .later [] _ _ _ _ said (fun _ h => by cases h) (by kernel_rfl) (fun _ h => by cases h) paramSteps_row_tie rfl ⟨rfl, rfl⟩ (by kernel_rfl) rfl plain (by kernel_rfl)
#print axioms card
end Go.Proofs.YtcbhdkcgmkkjmaaDoor.paramSteps

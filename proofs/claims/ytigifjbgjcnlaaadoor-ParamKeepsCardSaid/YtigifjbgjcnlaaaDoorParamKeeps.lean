/-
  ParamKeeps holds, whatever the input: the card of the statement, with the library's three tables tied to the program's text.
-/
import Derived.Test.YtigifjbgjcnlaaaDoorCards
import Derived.Test.YtigifjbgjcnlaaaDoorTie
import Derived.Test.YtigifjbgjcnlaaaDoorFrameP
import Derived.Test.YtigifjbgjcnlaaaDoorFrameE
import Derived.Test.YtigifjbgjcnlaaaDoorAwakeP
import Derived.Test.YtigifjbgjcnlaaaDoorParV
import Derived.Test.YtigifjbgjcnlaaaDoorParM
import Derived.Test.YtigifjbgjcnlaaaDoorKit3
namespace Go.Proofs.YtigifjbgjcnlaaaDoor.paramKeeps
open Go.ChangeShapes Go.WideShapes Go.ChangeAt Go.RowKit
open Go.ChangeMaps (open_string)

theorem made_zero (n : Nat) : (madeCells (Value.int .i64 0).cells n).toList = List.replicate n (.int .i64 0) := by
  apply List.ext_getElem?
  intro j
  by_cases hj : j < n
  · have h1 : j % 1 = 0 := Nat.mod_one j
    simp [madeCells, Value.cells, hj, h1]
  · rw [List.getElem?_eq_none (by simp [madeCells]; omega), List.getElem?_eq_none (by simp; omega)]
/-- The list with four more numbers behind it, up to place k laid. -/
def tailL (l : List Int) (k : Nat) : List Int := l ++ (List.range 4).map fun j => if l.length + j < k then 70000 + (l.length + j : Int) else 0
theorem tailL_len (l : List Int) (k : Nat) : (tailL l k).length = l.length + 4 := by unfold tailL; simp
theorem tailL_at (l : List Int) (k j : Nat) (hj : j < l.length + 4) : (tailL l k)[j]? = some (if j < l.length then l.getD j 0 else if j < k then 70000 + (j : Int) else 0) := by
  unfold tailL
  by_cases h : j < l.length
  · rw [List.getElem?_append_left h, if_pos h, List.getElem?_eq_getElem h]; simp [List.getD, List.getElem?_eq_getElem h]
  · rw [List.getElem?_append_right (by omega), if_neg h, List.getElem?_map, List.getElem?_range (by omega)]
    simp only [Option.map_some]
    rw [show l.length + (j - l.length) = j from by omega]
    congr 2
    omega
theorem tailL_set (l : List Int) (k : Nat) (h1 : l.length ≤ k) (h2 : k < l.length + 4) : (tailL l k).set k (70000 + (k : Int)) = tailL l (k + 1) := by
  apply List.ext_getElem?
  intro j
  by_cases hj : j < l.length + 4
  · by_cases hjk : j = k
    · subst hjk
      rw [List.getElem?_set_self (by rw [tailL_len]; exact h2), tailL_at l (j + 1) j hj, if_neg (by omega), if_pos (by omega)]
    · rw [List.getElem?_set_ne (fun e => hjk e.symm), tailL_at l k j hj, tailL_at l (k + 1) j hj]
      by_cases hl : j < l.length
      · rw [if_pos hl, if_pos hl]
      · rw [if_neg hl, if_neg hl]
        by_cases h3 : j < k
        · rw [if_pos h3, if_pos (by omega)]
        · rw [if_neg h3, if_neg (by omega)]
  · rw [List.getElem?_eq_none (by rw [List.length_set, tailL_len]; omega), List.getElem?_eq_none (by rw [tailL_len]; omega)]

theorem tail_start (l : List Int) : splice (madeCells (Value.int .i64 0).cells ((l.length + 4) * 1)).toList 0 (l.map (Value.int .i64)) = (tailL l l.length).map (Value.int .i64) := by
  rw [made_zero]
  unfold splice tailL
  rw [List.take_zero, List.nil_append, List.map_append, Nat.zero_add, List.length_map, List.drop_replicate, show (l.length + 4) * 1 - l.length = 4 from by omega]
  congr 1
  simp [List.range, List.range.loop, List.replicate]
  omega
theorem tail_reads {w : World} {g k : Nat} {l : List Int} (h : Blk w g 3 ((tailL l k).map (Value.int .i64)).toArray) : RInts w (some ⟨g, 0, none⟩) l := by
  refine ⟨by simp, fun _ => ⟨_, rfl, h.lt, fun j u hu => ?_⟩⟩
  have hj : j < l.length := by
    rcases Nat.lt_or_ge j l.length with h' | h'
    · exact h'
    · rw [List.getElem?_eq_none (by simpa using h')] at hu; cases hu
  rw [add_here, Blk.cell h j, List.getElem?_toArray, List.getElem?_map, tailL_at l k j (by omega), if_pos hj]
  rw [← hu, List.getElem?_map, List.getElem?_eq_getElem hj]
  simp [List.getD, List.getElem?_eq_getElem hj]
theorem tail_cell {w : World} {g k : Nat} {l : List Int} (h : Blk w g 3 ((tailL l k).map (Value.int .i64)).toArray) (j : Nat) (hj : j < l.length + 4) : w.cell? ⟨g, j, none⟩ = some (.int .i64 (if j < l.length then l.getD j 0 else if j < k then 70000 + (j : Int) else 0)) := by
  rw [Blk.cell h j, List.getElem?_toArray, List.getElem?_map, tailL_at l k j hj]; rfl
theorem own_row {w w' : World} {base : Nat} {row : Option Nat} {v : Value} {ns : List Int} (h : OInts w base v ns) (hg : w.grownBy w' row) (hrow : ∀ k, row = some k → k < base) : OInts w' base v ns :=
  World.ownsRow.kept h hg (by
    cases hb : v.ownBlock with
    | none => exact .inl rfl
    | some k =>
      right
      have := (World.ownsRow.lt h k hb).1
      intro e
      have := hrow k e.symm
      omega)
theorem oints_next {w w' : World} {base : Nat} {v : Value} {ns : List Int} (h : OInts w base v ns) (hb : Below w.heap.size w w') : OInts w' base v ns :=
  World.ownsRow.kept (row := none) h ⟨hb.os, hb.tape, hb.output, hb.size, fun k hk _ => hb.block k hk⟩ (by cases v.ownBlock <;> simp)
theorem grown_refl (w : World) (r : Option Nat) : w.grownBy w r := World.grownBy.refl w r
theorem oints_store {w : World} {base g c k : Nat} {ns : List Int} (h : OInts w base (.slice (some ⟨g, 0, none⟩) ns.length c) ns) (x : Int) : OInts (w.setCell ⟨g, k, none⟩ (.int .i64 x)) base (.slice (some ⟨g, 0, none⟩) ns.length c) (ns.set k x) := by
  have h1 := (World.ownsRow.stored h k (.int .i64 x)).1
  unfold OInts
  rw [List.length_set, List.map_set]
  exact h1
set_option maxRecDepth 100000 in
set_option maxHeartbeats 8000000 in
theorem walk (A : Option Addr) (c : Nat) (l : List Int) (_hm : l.length ≤ 17592186043904) (_hc : l.length ≤ c) (s : ByteArray) (_hs : s.size ≤ maxLen) (w : World) (ht : Ten w) (hr : RInts w A l) :
    Calls Tryd.prog 9 #[.slice A l.length c, .string s] w fun e w' => e = .returned (.bool true) ∧ Below w.heap.size w w' := by
  by_cases h1 : l.length ≤ 60 ∧ s.size ≤ 300
  rotate_left
  · have hd : (decide ((l.length : Int) > 60) = true) ∨ (decide ((l.length : Int) > 60) = false ∧ decide ((s.size : Int) > 300) = true) := by
      by_cases h : l.length ≤ 60
      · exact .inr ⟨by simp; omega, by simp; omega⟩
      · exact .inl (by simp; omega)
    clear h1
    rcases hd with hd | ⟨hd, hd2⟩
    all_goals
      go_enter Tryd.func9, Tryd.ntmps9
      go_wp2_with fail
      refine (awakeP_any _ ht).mono ?_
      rintro e w1 ⟨rfl, hb⟩
      go_wp2_with fail
      go_ret
      exact ⟨rfl, hb⟩
  · obtain ⟨hl60, hs3⟩ := h1
    have hd1 : decide ((l.length : Int) > 60) = false := by simp; omega
    have hd2 : decide ((s.size : Int) > 300) = false := by simp; omega
    obtain ⟨i0, hi0, hz0, hz1, hz2⟩ := info_parts info_int
    have HI := Lib.hid hi0; have HZ0 := Lib.hid hz0; have HZ1 := Lib.hid hz1; have HZ2 := Lib.hid hz2
    clear hi0 hz0 hz1 hz2
    go_enter Tryd.func9, Tryd.ntmps9
    go_wp2_with fail
    refine (awakeP_any _ ht).mono ?_
    rintro e w1 ⟨rfl, hb⟩
    have HB := Lib.hid hb
    have hr1 := hr.next hb
    have HR1 := Lib.hid hr1
    clear hb hr1
    have HEc : Hid ((l.length : Int) + 4 = ((l.length + 4 : Nat) : Int)) := Lib.hid (by omega)
    go_wp2_with (first
      | (at_make; refine wpList_make_full _ rfl _ _ 23 rfl w1.heap.size 3 i0 (.int .i64 0) 1 Tryd.underlying23 HI.out HZ0.out HZ1.out _ _ _ _ (l.length + 4) rfl rfl HEc.out HEc.out (by rw [HZ2.out]; omega) (by unfold maxLen; omega) (Nat.le_refl _) ?_; intro w2 hown hgr; have HOwn := Lib.hid hown; have HB2 := Lib.hid (below_grown_none hgr (Nat.le_refl _)); clear hown hgr)
      | (refine wpList_copy_splice (o := ⟨some 31, _, _, _, _, _⟩) rfl (.tmp 29) (.tmp 30) 23 23 rfl 3 Tryd.underlying23 (by kernel_rfl) _ _ _ _ _ _ rfl rfl w1.heap.size 0 _ 3 (own_blk HOwn.out) (l.map (Value.int .i64)) (by rw [List.length_map]; exact (Nat.min_eq_left (by omega)).symm) (fun hpos => ⟨rfl, by obtain ⟨ad, rfl, _, hcell⟩ := (HR1.out.next HB2.out).2 (by simpa using hpos); exact ⟨ad, rfl, hcell⟩⟩) (by rw [List.length_map]; simp [madeCells]) (ints_one _) w1.heap.size w1 HB2.out (Nat.le_refl _) ?_; intro w3 hblk3 hb3))
    have hk3 : Blk w3 w1.heap.size 3 ((tailL l l.length).map (Value.int .i64)).toArray := by
      have := hblk3.out
      rwa [tail_start] at this
    have HK3 := Lib.hid hk3; have HB3 := Lib.hid hb3
    clear hblk3 hb3 hk3 HOwn HB2
    obtain ⟨G, hG⟩ : ∃ G, G = w1.heap.size := ⟨_, rfl⟩
    rw [← hG] at HK3
    have HG := Lib.hid hG
    rw [← hG]
    clear hG
    go_loopw [6] (fun i wr => ∃ k : Nat, l.length ≤ k ∧ k ≤ l.length + 4 ∧ i = .int .i64 k ∧ Blk wr G 3 ((tailL l k).map (Value.int .i64)).toArray ∧ Below w1.heap.size w1 wr) (fun i _ => l.length + 4 - (intOf i).toNat)
    case atStart => exact ⟨l.length, by omega, by omega, rfl, HK3.out, HB3.out⟩
    case round =>
      obtain ⟨k, hk1, hk2, rfl, hblk, hbk⟩ := hrel
      clear HK3 HB3
      by_cases hlt : k < l.length + 4
      · have hfz := hblk.frozen k
        have hcl := tail_cell hblk k hlt
        rw [if_neg (by omega), if_neg (by omega)] at hcl
        have HBlk := Lib.hid hblk; have HBk := Lib.hid hbk
        clear hblk hbk
        go_wp2_with fail
        go_roundw
        case rel =>
          refine ⟨k + 1, by omega, by omega, by go_num, ?_, HBk.out.setCell (Nat.le_of_eq HG.out.symm) _⟩
          have := HBlk.out.set_ k (.int .i64 (70000 + (k : Int)))
          rw [set_list, tailL_set l k hk1 hlt] at this
          exact this
        case measure => simp [intOf]; omega
      · obtain rfl : k = l.length + 4 := by omega
        have HBlk := Lib.hid hblk; have HBk := Lib.hid hbk
        have HRd := Lib.hid (tail_reads hblk)
        clear hblk hbk hk1 hk2 hlt
        have hb1 := HB.out.trans (HBk.out.mono HB.out.size)
        have HB1 := Lib.hid hb1
        clear hb1
        go_wp2_with fail
        refine (format_any (some ⟨G, 0, none⟩) (l.length + 4) l (by unfold maxLen; omega) (by omega) _ (ht.next HB1.out) HRd.out).mono ?_
        rintro e w4 ⟨rfl, hb4⟩
        have HRd4 := Lib.hid (HRd.out.next hb4)
        have HBlk4 := Lib.hid (HBlk.out.next hb4)
        replace HB1 := Lib.hid (HB1.out.trans (hb4.mono HB1.out.size)); clear hb4 HRd HBlk HBk
        go_wp2_with fail
        refine (get_any (some ⟨G, 0, none⟩) (l.length + 4) l 0 1 _ HRd4.out).mono ?_
        rintro e w' ⟨rfl, rfl⟩
        go_wp2_with fail
        go_loopw [57] (fun i wr => ∃ k : Nat, k ≤ l.length + 4 ∧ i = .int .i64 k ∧ Below w4.heap.size w4 wr) (fun i _ => l.length + 4 - (intOf i).toNat)
        case atStart => exact ⟨0, by omega, rfl, Below.refl _ _⟩
        case round =>
          obtain ⟨k, hk, rfl, hbk⟩ := hrel
          have HBk := Lib.hid hbk
          by_cases hlt : k < l.length + 4
          · have hcl := tail_cell (HBlk4.out.next HBk.out) k hlt
            by_cases hl : k < l.length
            · obtain ⟨ad, rfl, _, hcell⟩ := ((hr.next HB1.out).next hbk).at_ hl
              have hx : l.getD k 0 = l[k] := by simp [List.getD, List.getElem?_eq_getElem hl]
              rw [if_pos hl, hx] at hcl
              clear hx hbk
              have hg1 : decide (k < l.length) = true := by simp; omega
              have hg2 : decide (k ≥ l.length) = false := by simp; omega
              generalize l[k] = x at *
              go_wp2_with fail
              go_quiet (fail)
              go_wp2
              go_roundw
              case rel => exact ⟨k + 1, by omega, by go_num, below_drewN HBk.out _⟩
              case measure => simp [intOf]; omega
            · rw [if_neg hl, if_pos hlt] at hcl
              clear hbk
              have hg1 : decide (k < l.length) = false := by simp; omega
              have hg2 : decide (k ≥ l.length) = true := by simp; omega
              have e1 : IntKind.i64.wrap (70000 + (k : Int)) = 70000 + k := IntWalk.i64_in _ (by omega)
              go_wp2_with fail
              go_quiet (fail)
              go_wp2
              go_roundw
              case rel => exact ⟨k + 1, by omega, by go_num, below_drewN HBk.out _⟩
              case measure => simp [intOf]; omega
          · obtain rfl : k = l.length + 4 := by omega
            have HB5 := Lib.hid (HB1.out.trans (HBk.out.mono HB1.out.size))
            clear hbk HBk HBlk4 HRd4 HB1 hlt hk
            have HP := Lib.hid (parse_all s (by unfold maxLen; omega))
            have HR := Lib.hid (refParse_all s (by omega))
            have hl30 := (parseV_range s.data.toList).2.1
            generalize (parseV s.data.toList).1 = ns at *
            generalize (parseV s.data.toList).2 = er at *
            go_wp2_with fail
            refine (HP.out _).mono ?_
            rintro e w6 ⟨⟨A6, c6, rfl, hown6⟩, hb6⟩
            have HO6 := Lib.hid hown6; have HB6 := Lib.hid hb6
            clear hown6 hb6
            go_wp2_with fail
            refine (HP.out _).mono ?_
            rintro e w7 ⟨⟨A7, c7, rfl, hown7⟩, hb7⟩
            have HO7 := Lib.hid hown7; have HB7 := Lib.hid hb7
            clear hown7 hb7
            go_wp2_with fail
            refine (HR.out _).mono ?_
            rintro e w8 ⟨⟨A8, c8, rfl, hown8⟩, hb8⟩
            have HO8 := Lib.hid hown8; have HB8 := Lib.hid hb8
            clear hown8 hb8
            have HX := Lib.hid (oints_next (oints_next HO6.out HB7.out) HB8.out)
            have HY := Lib.hid (oints_next HO7.out HB8.out)
            have HBA := Lib.hid (HB5.out.trans (HB6.out.mono HB5.out.size))
            replace HBA := Lib.hid (HBA.out.trans (HB7.out.mono HBA.out.size))
            replace HBA := Lib.hid (HBA.out.trans (HB8.out.mono HBA.out.size))
            have HL6 := Lib.hid (fun k hk => World.ownsRow.lt HO6.out k hk)
            obtain ⟨b6, hb6, hb6w, hb6s⟩ : ∃ b6, b6 = wr.heap.size ∧ w.heap.size ≤ b6 ∧ b6 ≤ w8.heap.size := ⟨_, rfl, HB5.out.size, Nat.le_trans HB6.out.size (Nat.le_trans HB7.out.size HB8.out.size)⟩
            rw [← hb6] at HX HL6
            have hs67 := HB7.out.size
            clear hb6 HO6 HO7 HB5 HB6 HB8 HB7 HP HR
            go_wp2_with fail
            go_loopw [108] (fun i wr => ∃ (k : Nat) (ms : List Int), k ≤ ns.length ∧ i = .int .i64 k ∧ ms.length = ns.length ∧ OInts wr b6 (.slice A6 ms.length c6) ms ∧ w8.grownBy wr (Value.slice A6 ns.length c6).ownBlock) (fun i _ => ns.length - (intOf i).toNat)
            case atStart => exact ⟨0, ns, by omega, rfl, rfl, HX.out, grown_refl _ _⟩
            case round =>
              obtain ⟨k, ms, hk, rfl, hml, hown, hgr⟩ := hrel
              have HM := Lib.hid hml; have HO := Lib.hid hown; have HG := Lib.hid hgr
              clear hml hown hgr
              by_cases hlt : k < ns.length
              · obtain ⟨g, hA⟩ : ∃ g, A6 = some ⟨g, 0, none⟩ := by
                  rcases HO.out.2 with ⟨_, h0⟩ | ⟨g, _, _, hv, _⟩
                  · have := HM.out; omega
                  · injection hv with h; exact ⟨g, h⟩
                subst hA
                have hfz := World.ownsRow.frozenAt HO.out k
                have hcl : wr.cell? ⟨g, k, none⟩ = some (.int .i64 (ms[k]'(by rw [HM.out]; exact hlt))) := by
                  rw [World.ownsRow.cellAt HO.out k (by have := HM.out; omega), List.getElem?_map, List.getElem?_eq_getElem (by rw [HM.out]; exact hlt)]; rfl
                generalize ms[k]'(by rw [HM.out]; exact hlt) = old at *
                go_wp2_with fail
                go_roundw
                case rel =>
                  refine ⟨k + 1, ms.set k (-1), by omega, by go_num, by rw [List.length_set]; exact HM.out, ?_, grown_trans HG.out grown_set⟩
                  rw [List.length_set]
                  exact oints_store HO.out (-1)
                case measure => simp [intOf]; omega
              · obtain rfl : k = ns.length := by omega
                have hbig : ms.length ≤ 30 := by rw [HM.out]; exact hl30
                have HO2 : Hid (OInts wr b6 (.slice A6 ns.length c6) ms) := Lib.hid (by have h := HO.out; rwa [HM.out] at h)
                have HOa : Hid ((wr.alloc (.cells #[.int .i64 5, .int .i64 6] 3)).ownsRow b6 3 1 (.slice A6 ns.length c6) ms.length (ms.map (Value.int .i64))) := Lib.hid (World.ownsRow.alloc HO2.out _)
                have HRn : Hid (Reads (wr.alloc (.cells #[.int .i64 5, .int .i64 6] 3)) (wr.alloc (.cells #[.int .i64 5, .int .i64 6] 3)).heap.size 1 (some ⟨wr.heap.size, 0, none⟩) 2 ([5, 6].map (Value.int .i64))) := Lib.hid (rints_new wr 3 [5, 6] #[.int .i64 5, .int .i64 6] rfl wr.heap.size rfl)
                have hsz := HG.out.size
                have HYg := Lib.hid (own_row HY.out HG.out (fun k hk => (HL6.out k hk).2))
                have HWg := Lib.hid (own_row HO8.out HG.out (fun k hk => by have := (HL6.out k hk).2; omega))
                have HBg := Lib.hid (HBA.out.grown HG.out HBA.out.size (fun k hk => by have := (HL6.out k hk).1; omega))
                have HLe : Hid (b6 ≤ (wr.alloc (.cells #[.int .i64 5, .int .i64 6] 3)).heap.size) := Lib.hid (by simp; omega)
                have HLn : Hid (ms.length + 2 ≤ maxLen ∧ (ms.length + 2) * 8 ≤ 140737488355328) := Lib.hid (by unfold maxLen; omega)
                have HML := Lib.hid HM.out
                clear hlt hk HM HO HG HX HY HO8
                go_wp2_with (at_builtin; (refine wpList_append_any _ rfl _ _ 23 rfl b6 3 i0 _ 1 8 Tryd.underlying23 HI.out HZ0.out HZ1.out HZ2.out rfl (by decide) _ _ _ rfl HOa.out _ _ _ _ _ rfl HRn.out (fun u hu => by obtain ⟨n, _, rfl⟩ := List.mem_map.1 hu; rfl) HLn.out.1 HLn.out.2 HLe.out ?_); intro v9 w9 hown9 hg9 hat9)
                have hown9' : w9.ownsRow b6 3 1 v9 (ms.length + 2) ((ms ++ [5, 6]).map (Value.int .i64)) := by simpa using hown9
                obtain ⟨A9, c9, rfl, _, _⟩ := own_ints hown9'
                have hal : Below wr.heap.size wr (wr.alloc (.cells #[.int .i64 5, .int .i64 6] 3)) := (Below.refl _ _).alloc (Nat.le_refl _) _
                have HLr : Hid (∀ k, (Value.slice A6 ns.length c6).ownBlock = some k → b6 ≤ k ∧ k < w6.heap.size) := HL6
                have HY2 := Lib.hid (OInts.reads (own_row (oints_next HYg.out hal) hg9 (fun k hk => (HLr.out k hk).2)))
                have HW2 := Lib.hid (OInts.reads (own_row (oints_next HWg.out hal) hg9 (fun k hk => by have := (HLr.out k hk).2; omega)))
                have HB9 := Lib.hid ((HBg.out.trans (hal.mono HBg.out.size)).grown hg9 (Nat.le_trans HBg.out.size hal.size) (fun k hk => by have := (HLr.out k hk).1; omega))
                have HMl : Hid (ms.length = ns.length) := HML
                clear hown9 hown9' hg9 hat9 hal HYg HWg HBg
                go_wp2_with fail
                refine (sameInts_any A7 A8 c7 c8 ns ns (by unfold maxLen; omega) (by unfold maxLen; omega) _ HY2.out HW2.out).mono ?_
                rintro e w10 ⟨rfl, hb10⟩
                rw [show (ns == ns) = true from by simp]
                go_wp2_with fail
                go_ret
                exact ⟨ret_bool (by rw [HMl.out]; simp), HB9.out.trans (hb10.mono HB9.out.size)⟩

/-- What the walk gives, for every argument and every world that holds the table. -/
theorem contract (H : Type) (enc : TypeId × Value → H) (W : World) (base : Nat) (args : Array Value) (ds gs : List (DataW H)) (before : List MemPlace)
    (hval : ∀ (j : Nat) t v, Tryd.f9.params[j]? = some t → args[j]? = some v → Value.okWide Tryd.prog W .any base t v)
    (hW : DataW.Whole enc Tryd.prog Tryd.f9.params.toList Rows.paramKeepsSpec.vars false W args.toList ds gs before) (hL : laidMetH Tryd.prog Rows.paramKeepsRow.laid W)
    (hreach : (DataW.weightsEach Tryd.prog (Tryd.f9.params.toList ++ []) (ds ++ gs)).all (· ≤ reachBytes) = true) :
    Calls Tryd.prog 9 args W fun e W' => ∃ v, e = .returned v ∧ Rows.paramKeepsSpec.post enc Tryd.prog Tryd.f9 false true false false W args v W' := by
  have hW' := hW
  have ht := ten_of hL
  have hlts : ∀ x ∈ before, x.block < W.heap.size := fun x hx => hW'.lt x hx
  obtain ⟨p, q, hA0, hV, rfl, hfz, hnd⟩ := hW
  have hA : DataW.TrodAll enc Tryd.prog W 0 (fun _ => true) true Tryd.f9.params.toList args.toList ds p := hA0
  rw [Tryd.params9] at hA hval hreach
  obtain ⟨v0, vs0, d0, ds0, p0, q0, hargs, rfl, rfl, h0, r0⟩ := trodAll_cons hA
  obtain ⟨v1, vs1, d1, ds1, p1, q1, rfl, rfl, rfl, h1, r1⟩ := trodAll_cons r0
  obtain ⟨rfl, rfl, rfl⟩ := trodAll_nil r1
  obtain rfl : args = #[v0, v1] := by cases args; simp_all
  obtain ⟨rfl, rfl⟩ := trodVars_none hV
  obtain ⟨b0, len0, cap0, rfl⟩ := okWide_slice Tryd.underlying23 (hval 0 23 v0 rfl rfl)
  have hin0 := ints_in2 h0 (fun el sp e => by subst e; exact sized_slice hreach (j := 0) rfl rfl Tryd.underlying23)
  obtain ⟨ns0, hlen0, hm0, hc0, hri0⟩ := hin0
  subst hlen0
  obtain ⟨s1, rfl, rfl, rfl, hs1⟩ := open_string Tryd.underlying9 (hval 1 9 v1 rfl rfl) h1
  clear hA0
  refine (walk b0 cap0 ns0 hm0 hc0 s1 hs1 W ht hri0).mono fun e W' ⟨he, hb⟩ => ?_
  subst he
  exact ⟨_, rfl, post_law laidOut (by kernel_rfl) (by kernel_rfl) rfl hW' rfl hb⟩

theorem laid_met (os : Os) : laidMet Tryd.prog Rows.paramKeepsRow.laid ((laidWorld os).forCall (fun _ _ => 0) ⟨#[], #[Value.slice none 0 0, Value.string ⟨#[]⟩], []⟩).memory :=
  laidMet_of_run' 8 (by kernel_rfl) (by kernel_rfl)
theorem reads (os : Os) {H : Type} (enc : TypeId × Value → H) : ∃ places, DataW.whole enc Tryd.prog ((laidWorld os).forCall (fun _ _ => 0) ⟨#[], #[Value.slice none 0 0, Value.string ⟨#[]⟩], []⟩).memory Tryd.f9.params.toList Rows.paramKeepsSpec.vars false (#[Value.slice none 0 0, Value.string ⟨#[]⟩] : Array Value).toList 8 = some ([.nil, .lit (.string [])], [], places) :=
  ⟨[], by kernel_rfl⟩

set_option maxRecDepth 100000 in
theorem lifted (os : Os) (started : os.Started) (H : Type) (enc : TypeId × Value → H) (F : Stop.Interp) :
    ReturnsInHanded {} Tryd.checked os 9 .any ((OpenSpec.ofChange Rows.paramKeepsSpec).preRow enc Tryd.prog Tryd.f9 Rows.paramKeepsRow.domain false Rows.paramKeepsRow.laid) (((OpenSpec.ofChange Rows.paramKeepsSpec).at F).post enc Tryd.prog Tryd.f9 false true false false) := by
  obtain ⟨places, hx⟩ := reads os enc
  refine returnsInHanded_of_row (C := Tryd.checked) (s := OpenSpec.ofChange Rows.paramKeepsSpec) own started (by kernel_rfl) Tryd.func9
    (witness_row_at (enc := enc) (C := Tryd.checked) false (laidWorld os) #[Value.slice none 0 0, Value.string ⟨#[]⟩] rfl (by kernel_rfl) (by kernel_rfl) (by kernel_rfl)
      (OpenSpec.preRow_of_cond 8 hx (by kernel_rfl) (fun k hk => by cases hk) (by kernel_rfl) (laid_met os))) ?_
  intro W base args ds gs before hval hW _ _ hreach hL _ _
  exact contract H enc W base args ds gs before hval hW hL hreach

theorem said : Rows.ParamKeepsSaid :=
  OpenClaim.holds_of_cond 9 Tryd.f9 rfl rfl rfl rfl rfl rfl rfl ⟨rfl, rfl, rfl, rfl, rfl⟩ rfl rfl rfl rfl rfl (by kernel_rfl) Tryd.func9 (by kernel_rfl)
    (of_decide_eq_true (by kernel_rfl)) (by unfold Func.isWrapper; first | (rw [if_pos (by decide +kernel)]; kernel_rfl) | (rw [if_neg (by decide +kernel)]; exact ⟨rfl, rfl⟩))
    (fun os started H enc _ F => by rw [OpenClaim.pre_eq_preRow]; exact lifted os started H enc F)

theorem plain (f : FuncId) (fn : Func) (hf : Tryd.pinned.checked.prog.funcNamed "phosphor/phosphorlaw04.ParamKeeps" = some f) (hfn : Tryd.pinned.checked.prog.funcs[f]? = some fn) :
    false = Tryd.pinned.checked.prog.looks [] ∧ ∀ (j : Nat) t, fn.params[j]? = some t → Tryd.pinned.checked.prog.wantsStandIn t = false := by
  obtain rfl : f = 9 := Option.some.inj ((show Tryd.prog.funcNamed "phosphor/phosphorlaw04.ParamKeeps" = some 9 by kernel_rfl).symm.trans hf) |>.symm
  obtain rfl : fn = Tryd.f9 := (Option.some.inj (Tryd.func9.symm.trans hfn)).symm
  refine ⟨by kernel_rfl, fun j t ht => ?_⟩
  rw [Tryd.params9] at ht
  have hm : t ∈ [23, 9] := by simpa using Array.mem_of_getElem? ht
  have hall : ([23, 9].all fun u => !Tryd.prog.wantsStandIn u) = true := by kernel_rfl
  exact (show Tryd.prog.wantsStandIn t = false by simpa using List.all_eq_true.1 hall t hm)

/-- The card. -/
theorem card : Rows.ParamKeepsCardSaid :=
  Claim7.holds_tied_plain_at .later [] _ _ _ _ said (fun _ h => by cases h) (by kernel_rfl) (fun _ h => by cases h) paramKeeps_row_tie rfl ⟨rfl, rfl⟩ (by kernel_rfl) rfl plain (by kernel_rfl)
#print axioms card
end Go.Proofs.YtigifjbgjcnlaaaDoor.paramKeeps

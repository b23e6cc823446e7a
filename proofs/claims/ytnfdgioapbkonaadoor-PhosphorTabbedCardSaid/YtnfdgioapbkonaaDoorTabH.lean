/-
  The walks of the reference's stops: the n-th one to the left; more or fewer columns; a stop set or cleared.
-/
import Derived.Test.YtnfdgioapbkonaaDoorTabJ
namespace Go.Proofs.YtnfdgioapbkonaaDoor

open Go Go.RowKit


/-- So many columns: those that were there, and new ones. -/
def rszAt (l : List Bool) (i : Nat) : Bool := if i < l.length then l.getD i false else (decide (0 < i) && decide (i % 8 = 0))
def rszP (l : List Bool) (N : Nat) : List Bool := (List.range N).map (rszAt l)
theorem rszP_len (l : List Bool) (N : Nat) : (rszP l N).length = N := by simp [rszP]
theorem rszP_succ (l : List Bool) (N : Nat) : rszP l (N + 1) = rszP l N ++ [rszAt l N] := by simp [rszP, List.range_succ]
theorem rszP_get (l : List Bool) (N c : Nat) : hOf (rszP l N) c = if c < N then rszAt l c else false := by
  by_cases h : c < N
  · rw [hOf_in _ c (by rw [rszP_len]; exact h), if_pos h]; simp [rszP]
  · rw [hOf_out _ c (by rw [rszP_len]; omega), if_neg h]
theorem rsz_stops (l : List Bool) (N c : Nat) : moreH (lessH (hOf l) N (max N l.length)) l.length (max l.length N) c = hOf (rszP l N) c := by
  rw [rszP_get]
  unfold moreH lessH rszAt
  by_cases h1 : c < l.length
  · by_cases h2 : c < N
    · rw [if_pos h2, if_pos h1]
      have e1 : decide (N ≤ c) = false := by simp; omega
      have e2 : decide (l.length ≤ c) = false := by simp; omega
      rw [e1, e2]
      simp [hOf]
    · rw [if_neg h2]
      have e1 : decide (N ≤ c) = true := by simp; omega
      have e2 : decide (l.length ≤ c) = false := by simp; omega
      have e3 : decide (c < max N l.length) = true := by simp; omega
      rw [e1, e2, e3]
      simp
  · rw [hOf_out l c (by omega)]
    have e2 : decide (l.length ≤ c) = true := by simp; omega
    rw [e2]
    by_cases h2 : c < N
    · have e3 : decide (c < max l.length N) = true := by simp; omega
      rw [if_pos h2, if_neg h1, e3]
      simp
    · have e3 : decide (c < max l.length N) = false := by simp; omega
      rw [if_neg h2, e3]
      simp

set_option maxRecDepth 100000 in
set_option maxHeartbeats 4000000 in
theorem refResize_any (A : Option Addr) (c : Nat) (l : List Bool) (hl : l.length ≤ 500) (cols : Int) (w : World) (hr : RBools w A l) :
    Calls Tryd.prog 19 #[.slice A l.length c, .int .i64 cols] w fun e w' => ∃ v, e = .returned v ∧ OBools w' w.heap.size v (rszP l (colsT cols)) ∧ Below w.heap.size w w' := by
  have hN : colsT cols ≤ 500 := by unfold colsT; omega
  have hcase : (cols < 0 ∧ colsT cols = 0) ∨ (0 ≤ cols ∧ cols ≤ 500 ∧ cols = colsT cols) ∨ (500 < cols ∧ colsT cols = 500) := by unfold colsT; omega
  have HR := Lib.hid hr
  have HCa := Lib.hid hcase
  clear hr hcase
  generalize colsT cols = N at *
  go_enter Tryd.func19, Tryd.ntmps19
  go_upto_if 8 with (fail)
  obtain ⟨c1, hc1⟩ : ∃ c1, c1 = max cols 0 := ⟨_, rfl⟩
  go_cut [1] (fun s wx => s = .int .i64 c1 ∧ w = wx)
  case first =>
    by_cases h0 : cols < 0
    · have hd : decide (cols < 0) = true := by simpa using h0
      obtain rfl : c1 = 0 := by omega
      clear hc1
      go_wp2_with fail
      go_meet
      exact ⟨rfl, rfl⟩
    · have hd : decide (cols < 0) = false := by simpa using h0
      obtain rfl : c1 = cols := by omega
      clear hc1
      go_wp2_with fail
      go_meet
      exact ⟨rfl, rfl⟩
  case rest =>
    obtain ⟨rfl, rfl⟩ := hcut
    have hcase2 : (c1 ≤ 500 ∧ c1 = N) ∨ (500 < c1 ∧ N = 500) := by have := HCa.out; omega
    have HCb := Lib.hid hcase2
    clear hcase2 hc1 HCa
    go_upto_if 10 with (fail)
    go_cut [1] (fun s wx => s = .int .i64 (N : Int) ∧ w = wx)
    case first =>
      rcases HCb.out with ⟨h1, rfl⟩ | ⟨h1, rfl⟩
      · have hd : decide (500 < (N : Int)) = false := by simp; omega
        go_wp2_with fail
        go_meet
        exact ⟨rfl, rfl⟩
      · have hd : decide (500 < c1) = true := by simpa using h1
        go_wp2_with fail
        go_meet
        exact ⟨rfl, rfl⟩
    case rest =>
      obtain ⟨rfl, rfl⟩ := hcut
      clear HCb
      go_wp2_with fail
      go_loopw [5, 6] (fun v i wr => ∃ k : Nat, k ≤ N ∧ i = .int .i64 k ∧ OBools wr w.heap.size v (rszP l k) ∧ Below w.heap.size w wr) (fun _ i _ => N - (intOf i).toNat)
      case atStart => exact ⟨0, by omega, rfl, OBools.nil _ _, Below.refl _ _⟩
      case round =>
        obtain ⟨k, hk, rfl, hown, hb⟩ := hrel
        have HOwn := Lib.hid hown; have HB := Lib.hid hb
        clear hown hb
        have HSn := Lib.hid (rszP_succ l k)
        have hll := rszP_len l k
        have hz1 := HB.out.size
        by_cases hlt : k < N
        · by_cases hin : k < l.length
          · have HAt : Hid (rszAt l k = l[k]) := Lib.hid (by unfold rszAt; rw [if_pos hin]; exact hOf_in l k hin)
            obtain ⟨ad, rfl, _, hc⟩ := (HR.out.next HB.out).at_ hin
            generalize rszP l k = L at *
            generalize l[k] = b at *
            have hd : decide (k < l.length) = true := by simpa using hin
            go_wp2_with (at_builtin; refine wpList_push rfl _ _ _ rfl w.heap.size 4 _ 1 Tryd.underlying25 info_bool rfl _ _ _ rfl (obools_own HOwn.out) (.bool b) rfl _ _ _ rfl rfl (by unfold maxLen; omega) (by omega) hz1 ?_; intro v3 w3 hown3 hg3 hb3)
            go_roundw
            case rel => exact ⟨k + 1, by omega, by go_num, by rw [HSn.out, HAt.out]; unfold OBools; rw [List.length_append, List.map_append]; exact hown3, HB.out.trans hb3⟩
            case measure => simp [intOf]; omega
          · have hd : decide (k < l.length) = false := by simpa using hin
            have hm8 : (k : Int).tmod 8 = ((k % 8 : Nat) : Int) := by rw [Int.tmod_eq_emod_of_nonneg (by omega)]; rfl
            have HAt : Hid (rszAt l k = (decide (0 < k) && decide (k % 8 = 0))) := Lib.hid (by unfold rszAt; rw [if_neg hin])
            by_cases h0 : 0 < k
            · have hd0 : decide (0 < k) = true := by simpa using h0
              obtain ⟨m, hm⟩ : ∃ m, m = k % 8 := ⟨_, rfl⟩
              rw [← hm] at hm8 HAt
              have HAt2 : Hid (rszAt l k = (m == 0)) := Lib.hid (by rw [HAt.out, hd0, Bool.true_and]; rfl)
              clear hm HAt
              generalize rszP l k = L at *
              rcases hb : (m == 0) with _ | _
              all_goals
                rw [hb] at HAt2
                have hb2 : ((m : Int) == 0) = (m == 0) := by rw [Bool.eq_iff_iff]; simp
                rw [hb] at hb2
                go_wp2_with (at_builtin; refine wpList_push rfl _ _ _ rfl w.heap.size 4 _ 1 Tryd.underlying25 info_bool rfl _ _ _ rfl (obools_own HOwn.out) (.bool _) rfl _ _ _ rfl rfl (by unfold maxLen; omega) (by omega) hz1 ?_; intro v3 w3 hown3 hg3 hb3)
                go_roundw
                case rel => exact ⟨k + 1, by omega, by go_num, by rw [HSn.out, HAt2.out]; unfold OBools; rw [List.length_append, List.map_append]; exact hown3, HB.out.trans hb3⟩
                case measure => simp [intOf]; omega
            · obtain rfl : k = 0 := by omega
              have HAt2 : Hid (rszAt l 0 = false) := Lib.hid (by rw [HAt.out]; rfl)
              clear hm8 HAt h0
              generalize rszP l 0 = L at *
              go_wp2_with (at_builtin; refine wpList_push rfl _ _ _ rfl w.heap.size 4 _ 1 Tryd.underlying25 info_bool rfl _ _ _ rfl (obools_own HOwn.out) (.bool false) rfl _ _ _ rfl rfl (by unfold maxLen; omega) (by omega) hz1 ?_; intro v3 w3 hown3 hg3 hb3)
              go_roundw
              case rel => exact ⟨1, by omega, rfl, by rw [HSn.out, HAt2.out]; unfold OBools; rw [List.length_append, List.map_append]; exact hown3, HB.out.trans hb3⟩
              case measure => simp [intOf]; omega
        · obtain rfl : k = N := by omega
          go_wp2_with fail
          go_ret
          exact ⟨_, rfl, HOwn.out, HB.out⟩

/-- A stop, or none. -/
def putP (l : List Bool) (col : Int) (on : Bool) : List Bool := if 0 ≤ col ∧ col < l.length then l.set col.toNat on else l
theorem putP_len (l : List Bool) (col : Int) (on : Bool) : (putP l col on).length = l.length := by unfold putP; split <;> simp
theorem putP_in (l : List Bool) (c : Nat) (on : Bool) (h : c < l.length) (d : Nat) : hOf (putP l c on) d = if c = d then on else hOf l d := by
  unfold putP hOf
  rw [if_pos (by omega), Int.toNat_natCast, List.getD_eq_getElem?_getD, List.getElem?_set]
  by_cases e : c = d
  · rw [if_pos e, if_pos h, if_pos e]; rfl
  · rw [if_neg e, if_neg e]; rfl
theorem putP_out (l : List Bool) (col : Int) (on : Bool) (h : ¬ (0 ≤ col ∧ col < l.length)) : putP l col on = l := if_neg h
theorem OBools.set1 {W : World} {b g n c : Nat} {L : List Bool} (h : OBools W b (.slice (some ⟨g, 0, none⟩) n c) L) (hn : n = L.length) (k : Nat) (x : Bool) :
    OBools (W.setCell ⟨g, k, none⟩ (.bool x)) b (.slice (some ⟨g, 0, none⟩) n c) (L.set k x) := by
  subst hn
  have h1 := (World.ownsRow.stored h k (.bool x)).1
  unfold OBools
  rw [List.length_set, List.map_set]
  exact h1
theorem OBools.cell1 {W : World} {b g n c : Nat} {L : List Bool} (h : OBools W b (.slice (some ⟨g, 0, none⟩) n c) L) (hn : n = L.length) {k : Nat} (hk : k < L.length) :
    W.cell? ⟨g, k, none⟩ = some (.bool L[k]) ∧ W.frozen? ⟨g, k, none⟩ = false := by
  subst hn
  refine ⟨?_, World.ownsRow.frozenAt h k⟩
  rw [World.ownsRow.cellAt h _ (by omega)]
  simp [List.getElem?_eq_getElem hk]

set_option maxHeartbeats 2000000 in
theorem refPut_any (A : Option Addr) (c : Nat) (l : List Bool) (hl : l.length ≤ 500) (col : Int) (on : Bool) (w : World) (hr : RBools w A l) :
    Calls Tryd.prog 22 #[.slice A l.length c, .int .i64 col, .bool on] w fun e w' => ∃ v, e = .returned v ∧ OBools w' w.heap.size v (putP l col on) ∧ Below w.heap.size w w' := by
  obtain ⟨i0, hi0, hz0, hz1, hz2⟩ := info_parts info_bool
  have HI := Lib.hid hi0; have HZ0 := Lib.hid hz0; have HZ1 := Lib.hid hz1; have HZ2 := Lib.hid hz2
  clear hi0 hz0 hz1 hz2
  have hb0 : Below w.heap.size w (w.alloc (.cells #[] 4)) := (Below.refl _ _).alloc (Nat.le_refl _) _
  have HR : Hid (Reads (w.alloc (.cells #[] 4)) w.heap.size 1 A l.length (l.map Value.bool)) := Lib.hid (Reads.below hr hb0)
  have HO := Lib.hid (World.ownsRow_lit (e := 4) (size := 1) w #[] 0 (Nat.le_refl _) (Nat.zero_le _) rfl)
  by_cases h0 : 0 ≤ col
  · obtain ⟨m, rfl⟩ := Int.eq_ofNat_of_zero_le h0
    by_cases h1 : m < l.length
    · have HP : Hid (putP l m on = l.set m on) := Lib.hid (by unfold putP; rw [if_pos (by omega), Int.toNat_natCast])
      have hd1 : decide (m < l.length) = true := by simpa using h1
      go_enter Tryd.func22, Tryd.ntmps22
      go_wp2_with (at_builtin; refine wpList_append_any _ rfl _ _ 25 rfl w.heap.size 4 i0 _ 1 1 Tryd.underlying25 HI.out HZ0.out HZ1.out HZ2.out rfl (by decide) _ _ _ rfl HO.out w.heap.size A l.length c _ rfl HR.out (bools_one l) (by unfold maxLen; omega) (by omega) (by simp) ?_; intro v' w2 hown2 hg2 hat2; have HOwn : Hid (OBools w2 w.heap.size v' l) := Lib.hid (by simpa [OBools] using hown2); have HB1 := Lib.hid (hb0.trans ((Below.refl w.heap.size _).grown hg2 (by simp) (fun k hk => Nat.le_of_eq (Option.some.inj hk)))); obtain ⟨A', c', rfl⟩ := OBools.form HOwn.out; obtain ⟨g, cap, hv, hgb, _⟩ := World.ownsRow.form (obools_own HOwn.out) (by omega); simp only [Value.slice.injEq] at hv; obtain ⟨rfl, -, rfl⟩ := hv; obtain ⟨d0, f0⟩ := OBools.cell1 HOwn.out rfl h1; have HSt := Lib.hid (OBools.set1 HOwn.out rfl m on); clear hown2 hg2 hat2)
      rw [HP.out]
      go_ret
      exact ⟨_, rfl, HSt.out, HB1.out.setCell (by simpa using hgb) _⟩
    · have HP : Hid (putP l m on = l) := Lib.hid (putP_out _ _ _ (by omega))
      have hd1 : decide (m < l.length) = false := by simpa using h1
      go_enter Tryd.func22, Tryd.ntmps22
      go_wp2_with (at_builtin; refine wpList_append_any _ rfl _ _ 25 rfl w.heap.size 4 i0 _ 1 1 Tryd.underlying25 HI.out HZ0.out HZ1.out HZ2.out rfl (by decide) _ _ _ rfl HO.out w.heap.size A l.length c _ rfl HR.out (bools_one l) (by unfold maxLen; omega) (by omega) (by simp) ?_; intro v' w2 hown2 hg2 hat2; have HOwn : Hid (OBools w2 w.heap.size v' l) := Lib.hid (by simpa [OBools] using hown2); have HB1 := Lib.hid (hb0.trans ((Below.refl w.heap.size _).grown hg2 (by simp) (fun k hk => Nat.le_of_eq (Option.some.inj hk)))); clear hown2 hg2 hat2)
      rw [HP.out]
      go_ret
      exact ⟨_, rfl, HOwn.out, HB1.out⟩
  · have HP : Hid (putP l col on = l) := Lib.hid (putP_out _ _ _ (by omega))
    have hd1 : decide (0 ≤ col) = false := by simpa using h0
    go_enter Tryd.func22, Tryd.ntmps22
    go_wp2_with (at_builtin; refine wpList_append_any _ rfl _ _ 25 rfl w.heap.size 4 i0 _ 1 1 Tryd.underlying25 HI.out HZ0.out HZ1.out HZ2.out rfl (by decide) _ _ _ rfl HO.out w.heap.size A l.length c _ rfl HR.out (bools_one l) (by unfold maxLen; omega) (by omega) (by simp) ?_; intro v' w2 hown2 hg2 hat2; have HOwn : Hid (OBools w2 w.heap.size v' l) := Lib.hid (by simpa [OBools] using hown2); have HB1 := Lib.hid (hb0.trans ((Below.refl w.heap.size _).grown hg2 (by simp) (fun k hk => Nat.le_of_eq (Option.some.inj hk)))); clear hown2 hg2 hat2)
    rw [HP.out]
    go_ret
    exact ⟨_, rfl, HOwn.out, HB1.out⟩
end Go.Proofs.YtnfdgioapbkonaaDoor

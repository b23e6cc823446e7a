/-
  The walks of stops: new ones, all cleared, a copy, all of them as numbers.
-/
import Derived.Test.YtnfdgioapbkonaaDoorTabD
namespace Go.Proofs.YtnfdgioapbkonaaDoor

open Go Go.RowKit

/-- New stops. -/
def newH (N : Nat) : Nat → Bool := fun d => decide (d < N) && decide (0 < d) && decide (d % 8 = 0)
def noH : Nat → Bool := fun _ => false
theorem stw_zero (n : Nat) (hn : n ≤ 500) : StW n (List.replicate 8 0) noH :=
  ⟨rfl, fun k x hx => by
    rw [List.getElem?_replicate] at hx
    split at hx
    · injection hx with hx; subst hx; decide
    · exact absurd hx (by simp), hn, fun c _ => by
    unfold hasW noH
    rw [List.getD_eq_getElem?_getD, List.getElem?_replicate]
    split <;> simp⟩
theorem new_more (N d : Nat) (_hN : N ≤ 500) : moreH (lessH noH N (max N 0)) 0 (max 0 N) d = newH N d := by
  unfold moreH lessH noH newH
  have : max 0 N = N := by omega
  rw [this]
  simp
theorem below_new {w w' : World} {o : Obj} (hg : (w.alloc o).grownBy w' (some w.heap.size)) : Below w.heap.size w w' :=
  ((Below.refl _ _).alloc (Nat.le_refl _) o).grown hg (by simp) (fun k hk => by injection hk with e; omega)
set_option maxHeartbeats 1000000 in
theorem new_any (c : Int) (w : World) :
    Calls Tryd.prog 15 #[.int .i64 c] w fun e w' => e = .returned (.pointer (some ⟨w.heap.size, 0, none⟩)) ∧ Stp w' w.heap.size (colsT c) (newH (colsT c)) ∧ Below w.heap.size w w' := by
  have hN : colsT c ≤ 500 := by unfold colsT; omega
  have hs0 : Stp (w.alloc (.cells (stopsC 0 (List.replicate 8 0)) 56)) w.heap.size 0 noH := ⟨_, Blk.new w _ _, stw_zero 0 (by omega)⟩
  have HR := Lib.hid (resize_any w.heap.size 0 noH c _ hs0)
  have HM := Lib.hid (fun d => new_more (colsT c) d hN)
  have e0 : (Obj.cells (stopsC 0 (List.replicate 8 0)) 56) = Obj.cells #[.int .i64 0, .int .u64 0, .int .u64 0, .int .u64 0, .int .u64 0, .int .u64 0, .int .u64 0, .int .u64 0, .int .u64 0] 56 := rfl
  rw [e0] at HR
  clear hs0 e0
  generalize colsT c = N at *
  go_enter Tryd.func15, Tryd.ntmps15
  go_wp2_with fail
  refine HR.out.mono ?_
  rintro e w1 ⟨rfl, hs, hg⟩
  have HS := Lib.hid (hs.to (fun d _ => HM.out d))
  have HB := Lib.hid (below_new hg)
  clear hs hg HM
  go_wp2_with fail
  go_ret
  exact ⟨rfl, HS.out, HB.out⟩

theorem eight (ws : List Nat) (h : ws.length = 8) : ∃ a b c d e f g i, ws = [a, b, c, d, e, f, g, i] := by
  match ws, h with
  | [a, b, c, d, e, f, g, i], _ => exact ⟨a, b, c, d, e, f, g, i, rfl⟩
set_option maxHeartbeats 1000000 in
theorem clearAll_any (B n : Nat) (h : Nat → Bool) (w : World) (s : Stp w B n h) :
    Calls Tryd.prog 23 #[.pointer (some ⟨B, 0, none⟩)] w fun e w' => e = .returned (.tuple #[]) ∧ Stp w' B n noH ∧ w.grownBy w' (some B) := by
  obtain ⟨ws, hb, hst⟩ := s
  have hz := Lib.hid (stw_zero n hst.cols)
  obtain ⟨a, b, c, d, e, f, g, i, rfl⟩ := eight ws hst.len
  clear hst
  have hB : Blk w B 56 #[.int .i64 n, .int .u64 a, .int .u64 b, .int .u64 c, .int .u64 d, .int .u64 e, .int .u64 f, .int .u64 g, .int .u64 i] := hb
  have c1 := hB.cell 1; have c2 := hB.cell 2; have c3 := hB.cell 3; have c4 := hB.cell 4; have c5 := hB.cell 5; have c6 := hB.cell 6; have c7 := hB.cell 7; have c8 := hB.cell 8
  simp only [List.getElem?_toArray, List.getElem?_cons_succ, List.getElem?_cons_zero] at c1 c2 c3 c4 c5 c6 c7 c8
  have f1 := hB.frozen 1; have f2 := hB.frozen 2; have f3 := hB.frozen 3; have f4 := hB.frozen 4; have f5 := hB.frozen 5; have f6 := hB.frozen 6; have f7 := hB.frozen 7; have f8 := hB.frozen 8
  have hbk := (((((((hB.set_ 1 (.int .u64 0)).set_ 2 (.int .u64 0)).set_ 3 (.int .u64 0)).set_ 4 (.int .u64 0)).set_ 5 (.int .u64 0)).set_ 6 (.int .u64 0)).set_ 7 (.int .u64 0)).set_ 8 (.int .u64 0)
  simp only [List.setIfInBounds_toArray, List.set_cons_zero, List.set_cons_succ] at hbk
  have HBk := Lib.hid (show Blk _ B 56 (stopsC n (List.replicate 8 0)) from hbk)
  clear hb hB hbk
  go_enter Tryd.func23, Tryd.ntmps23
  go_wp2_with fail
  go_end0
  exact ⟨rfl, ⟨_, HBk.out, hz.out⟩, grown_tr (grown_tr (grown_tr (grown_tr (grown_tr (grown_tr (grown_tr grown_set1 grown_set1) grown_set1) grown_set1) grown_set1) grown_set1) grown_set1) grown_set1⟩

/-- The stops as numbers. -/
def lstP (h : Nat → Bool) (k : Nat) : List Int := ((List.range k).filter h).map fun (c : Nat) => (c : Int)
theorem lstP_len (h : Nat → Bool) (k : Nat) : (lstP h k).length ≤ k := by
  unfold lstP
  rw [List.length_map]
  exact Nat.le_trans (List.length_filter_le _ _) (by simp)
theorem lstP_yes (h : Nat → Bool) (k : Nat) (e : h k = true) : lstP h (k + 1) = lstP h k ++ [(k : Int)] := by
  unfold lstP
  rw [List.range_succ, List.filter_append, List.map_append]
  simp [e]
theorem lstP_no (h : Nat → Bool) (k : Nat) (e : h k = false) : lstP h (k + 1) = lstP h k := by
  unfold lstP
  rw [List.range_succ, List.filter_append, List.map_append]
  simp [e]
theorem lstP_congr (h h' : Nat → Bool) (k : Nat) (e : ∀ c, c < k → h c = h' c) : lstP h k = lstP h' k := by
  unfold lstP
  congr 1
  apply List.filter_congr
  intro c hc
  exact e c (by simpa using hc)
theorem OInts.next {w w' : World} {base : Nat} {v : Value} {ns : List Int} (h : OInts w base v ns) (hb : Below w.heap.size w w') : OInts w' base v ns :=
  World.ownsRow.kept (row := none) h ⟨hb.os, hb.tape, hb.output, hb.size, fun k hk _ => hb.block k hk⟩ (by cases v.ownBlock <;> simp)
theorem OInts.nil (w : World) (base : Nat) : OInts w base (.slice none 0 0) [] := ⟨rfl, .inl ⟨rfl, rfl⟩⟩
set_option maxHeartbeats 2000000 in
theorem list_any (B n : Nat) (h : Nat → Bool) (w : World) (s : Stp w B n h) :
    Calls Tryd.prog 13 #[.pointer (some ⟨B, 0, none⟩)] w fun e w' => ∃ v, e = .returned v ∧ OInts w' w.heap.size v (lstP h n) ∧ Below w.heap.size w w' := by
  have HS := Lib.hid s
  obtain ⟨c0, hn⟩ := s.cols
  clear s
  go_enter Tryd.func13, Tryd.ntmps13
  go_wp2_with fail
  go_loopw [3, 9] (fun v i wr => ∃ k : Nat, k ≤ n ∧ i = .int .i64 k ∧ OInts wr w.heap.size v (lstP h k) ∧ Below w.heap.size w wr) (fun _ i _ => n - (intOf i).toNat)
  case atStart => exact ⟨0, by omega, rfl, OInts.nil _ _, Below.refl _ _⟩
  case round =>
    obtain ⟨k, hk, rfl, hown, hb⟩ := hrel
    have HOwn := Lib.hid hown; have HB := Lib.hid hb
    clear hown hb
    by_cases hlt : k < n
    · have HHas := Lib.hid (fun W s' => has_yes B n h k hlt W s')
      rcases hh : h k with _ | _
      · rw [hh] at HHas
        have HL := Lib.hid (lstP_no h k hh)
        clear hh
        go_wp2_with fail
        refine (HHas.out _ (HS.out.next HB.out)).mono ?_
        rintro e w1 ⟨rfl, hb1⟩
        have HO1 := Lib.hid (HOwn.out.next hb1)
        have HB1 := Lib.hid (HB.out.trans (hb1.mono HB.out.size))
        clear hb1
        go_wp2_with fail
        go_roundw
        case rel => exact ⟨k + 1, by omega, by go_num, by rw [HL.out]; exact HO1.out, HB1.out⟩
        case measure => simp [intOf]; omega
      · rw [hh] at HHas
        have HL := Lib.hid (lstP_yes h k hh)
        have hll := lstP_len h k
        clear hh
        generalize lstP h k = L at *
        go_wp2_with fail
        refine (HHas.out _ (HS.out.next HB.out)).mono ?_
        rintro e w1 ⟨rfl, hb1⟩
        have HO1 := Lib.hid (HOwn.out.next hb1)
        have HB1 := Lib.hid (HB.out.trans (hb1.mono HB.out.size))
        have hz1 := HB1.out.size
        clear hb1
        go_wp2_with (at_builtin; refine wpList_push rfl _ _ _ rfl w.heap.size 3 _ 8 Tryd.underlying35 info_int rfl _ _ _ rfl (oints_own HO1.out) (.int .i64 (k : Int)) rfl _ _ _ rfl rfl (by unfold maxLen; omega) (by omega) hz1 ?_; intro v3 w3 hown3 hg3 hb3)
        go_roundw
        case rel => exact ⟨k + 1, by omega, by go_num, by rw [HL.out]; unfold OInts; rw [List.length_append, List.map_append]; exact hown3, HB1.out.trans hb3⟩
        case measure => simp [intOf]; omega
    · obtain rfl : k = n := by omega
      go_wp2_with fail
      go_ret
      exact ⟨_, rfl, HOwn.out, HB.out⟩
end Go.Proofs.YtnfdgioapbkonaaDoor

/-
  The walk that restores stops from a report.
-/
import Derived.Test.YtnfdgioapbkonaaDoorTabK
namespace Go.Proofs.YtnfdgioapbkonaaDoor

open Go Go.RowKit

theorem al (w : World) (o : Obj) : Below w.heap.size w (w.alloc o) := (Below.refl _ _).alloc (Nat.le_refl _) _
/-- What stops are behind a report: those that it says, or those that there were. -/
def RstPost (B n : Nat) (h : Nat → Bool) (Z : Option (List Bool)) (w : World) (e : Ending) (w' : World) : Prop :=
  w.grownBy w' (some B) ∧ ((∃ out, Z = some out ∧ out.length = n ∧ e = .returned (.int .i64 0) ∧ Stp w' B n (hOf out)) ∨ (Z = none ∧ e = .returned (.int .i64 3) ∧ Stp w' B n h))
theorem hOf_none (n : Nat) (c : Nat) : noH c = hOf (List.replicate n false) c := by
  by_cases h : c < n
  · rw [hOf_in _ c (by simpa using h)]; simp [noH]
  · rw [hOf_out _ c (by simp; omega)]; rfl
theorem mark_yes (out : List Bool) (c d : Nat) (h : c < out.length) : (hOf out d || decide (c = d)) = hOf (mark out (c + 1)) d := by
  rw [mark_put, show ((c + 1 : Nat) : Int) - 1 = c from by omega, putP_in _ _ _ h]
  by_cases e : c = d
  · simp [e]
  · simp [e]
theorem mark_no (out : List Bool) (N : Nat) (h : ¬ (0 ≤ (N : Int) - 1 ∧ (N : Int) - 1 < out.length)) : mark out N = out := by
  rw [mark_put, putP_out _ _ _ h]
theorem cells9 {w : World} {B n : Nat} {h : Nat → Bool} (s : Stp w B n h) : ∃ a b c d e f g i : Nat, StW n [a, b, c, d, e, f, g, i] h ∧ Blk w B 56 #[.int .i64 n, .int .u64 (a : Int), .int .u64 (b : Int), .int .u64 (c : Int), .int .u64 (d : Int), .int .u64 (e : Int), .int .u64 (f : Int), .int .u64 (g : Int), .int .u64 (i : Int)] := by
  obtain ⟨ws, hb, hst⟩ := s
  obtain ⟨a, b, c, d, e, f, g, i, rfl⟩ := eight ws hst.len
  exact ⟨a, b, c, d, e, f, g, i, hst, hb⟩
theorem nine {w : World} {B : Nat} {T : TypeId} {v0 v1 v2 v3 v4 v5 v6 v7 v8 : Value} (h : Blk w B T #[v0, v1, v2, v3, v4, v5, v6, v7, v8]) :
    w.cell? ⟨B, 0, none⟩ = some v0 ∧ w.cell? ⟨B, 1, none⟩ = some v1 ∧ w.cell? ⟨B, 2, none⟩ = some v2 ∧ w.cell? ⟨B, 3, none⟩ = some v3 ∧ w.cell? ⟨B, 4, none⟩ = some v4 ∧ w.cell? ⟨B, 5, none⟩ = some v5 ∧ w.cell? ⟨B, 6, none⟩ = some v6 ∧ w.cell? ⟨B, 7, none⟩ = some v7 ∧ w.cell? ⟨B, 8, none⟩ = some v8 :=
  ⟨h.cell 0, h.cell 1, h.cell 2, h.cell 3, h.cell 4, h.cell 5, h.cell 6, h.cell 7, h.cell 8⟩
theorem nine_fr {w : World} {B : Nat} {T : TypeId} {cs : Array Value} (h : Blk w B T cs) :
    w.frozen? ⟨B, 0, none⟩ = false ∧ w.frozen? ⟨B, 1, none⟩ = false ∧ w.frozen? ⟨B, 2, none⟩ = false ∧ w.frozen? ⟨B, 3, none⟩ = false ∧ w.frozen? ⟨B, 4, none⟩ = false ∧ w.frozen? ⟨B, 5, none⟩ = false ∧ w.frozen? ⟨B, 6, none⟩ = false ∧ w.frozen? ⟨B, 7, none⟩ = false ∧ w.frozen? ⟨B, 8, none⟩ = false :=
  ⟨h.frozen 0, h.frozen 1, h.frozen 2, h.frozen 3, h.frozen 4, h.frozen 5, h.frozen 6, h.frozen 7, h.frozen 8⟩
theorem put9 {w : World} {B : Nat} {T : TypeId} {u0 u1 u2 u3 u4 u5 u6 u7 u8 v0 v1 v2 v3 v4 v5 v6 v7 v8 : Value} (h : Blk w B T #[u0, u1, u2, u3, u4, u5, u6, u7, u8]) :
    Blk (((((((((w.setCell ⟨B, 0, none⟩ v0).setCell ⟨B, 1, none⟩ v1).setCell ⟨B, 2, none⟩ v2).setCell ⟨B, 3, none⟩ v3).setCell ⟨B, 4, none⟩ v4).setCell ⟨B, 5, none⟩ v5).setCell ⟨B, 6, none⟩ v6).setCell ⟨B, 7, none⟩ v7).setCell ⟨B, 8, none⟩ v8) B T #[v0, v1, v2, v3, v4, v5, v6, v7, v8] ∧
    w.grownBy (((((((((w.setCell ⟨B, 0, none⟩ v0).setCell ⟨B, 1, none⟩ v1).setCell ⟨B, 2, none⟩ v2).setCell ⟨B, 3, none⟩ v3).setCell ⟨B, 4, none⟩ v4).setCell ⟨B, 5, none⟩ v5).setCell ⟨B, 6, none⟩ v6).setCell ⟨B, 7, none⟩ v7).setCell ⟨B, 8, none⟩ v8) (some B) := by
  refine ⟨?_, grown_tr (grown_tr (grown_tr (grown_tr (grown_tr (grown_tr (grown_tr (grown_tr grown_set1 grown_set1) grown_set1) grown_set1) grown_set1) grown_set1) grown_set1) grown_set1) grown_set1⟩
  have := ((((((((h.set_ 0 v0).set_ 1 v1).set_ 2 v2).set_ 3 v3).set_ 4 v4).set_ 5 v5).set_ 6 v6).set_ 7 v7).set_ 8 v8
  simp only [List.setIfInBounds_toArray, List.set_cons_zero, List.set_cons_succ] at this
  exact this
/-- What is left to read. -/
def LeftR (m : Bool) (r : List UInt8) (out : List Bool) (Z : Option (List Bool)) : Prop := if m = true then rstG r 0 false out = Z else some out = Z

set_option maxRecDepth 100000 in
set_option maxHeartbeats 8000000 in
theorem restore_any (B n : Nat) (h : Nat → Bool) (s : ByteArray) (hs : s.size ≤ 100000) (w : World) (st : Stp w B n h) :
    Calls Tryd.prog 11 #[.pointer (some ⟨B, 0, none⟩), .string s] w (RstPost B n h (rstP s.data.toList n) w) := by
  have HS := Lib.hid st
  obtain ⟨c0, hn⟩ := st.cols
  have hBl := st.lt
  have HT0 : Hid (Stp (w.alloc (.cells #[.int .i64 n, .int .u64 0, .int .u64 0, .int .u64 0, .int .u64 0, .int .u64 0, .int .u64 0, .int .u64 0, .int .u64 0] 56)) w.heap.size n (hOf (List.replicate n false))) := Lib.hid (Stp.to ⟨_, Blk.new w _ (stopsC n (List.replicate 8 0)), stw_zero n hn⟩ (fun c _ => hOf_none n c))
  have HB0 := Lib.hid (al w (.cells #[.int .i64 n, .int .u64 0, .int .u64 0, .int .u64 0, .int .u64 0, .int .u64 0, .int .u64 0, .int .u64 0, .int .u64 0] 56))
  obtain ⟨m0, hm0, hL0⟩ : ∃ m0 : Bool, (!s.toList.isEmpty) = m0 ∧ LeftR m0 s.data.toList (List.replicate n false) (rstP s.data.toList n) := by
    refine ⟨_, rfl, ?_⟩
    unfold LeftR rstP
    rw [ByteArray.toList_eq]
    cases hd : s.data.toList with
    | nil => simp
    | cons a b => simp
  have HL0 := Lib.hid hL0
  clear hL0 st
  generalize rstP s.data.toList n = Z at *
  go_enter Tryd.func11, Tryd.ntmps11
  go_wp2_with fail
  clear c0
  go_loopw [1, 6] (fun a b wr => ∃ (r : ByteArray) (out : List Bool) (m : Bool), a = .string r ∧ b = .bool m ∧ r.size ≤ s.size ∧ out.length = n ∧ Stp wr w.heap.size n (hOf out) ∧ Below w.heap.size w wr ∧ LeftR m r.data.toList out Z) (fun a b _ => match a, b with | .string r, .bool true => r.size + 1 | _, _ => 0)
  case atStart => exact ⟨s, _, m0, rfl, rfl, Nat.le_refl _, by simp, HT0.out, HB0.out, HL0.out⟩
  case round =>
    obtain ⟨r, out, m, rfl, rfl, hrs, hol, hst, hb, hl⟩ := hrel
    have HT := Lib.hid hst; have HB := Lib.hid hb; have HL := Lib.hid hl
    clear hst hb hl
    rcases m with _ | _
    · have hZ : some out = Z := by have := HL.out; unfold LeftR at this; rw [if_neg (by simp)] at this; exact this
      have HZ := Lib.hid hZ
      obtain ⟨a, b, c, d, e, f, g, i, hw, hblk⟩ := cells9 HT.out
      obtain ⟨a', b', c', d', e', f', g', i', hw', hblk'⟩ := cells9 (HS.out.next HB.out)
      obtain ⟨t0, t1, t2, t3, t4, t5, t6, t7, t8⟩ := nine hblk
      obtain ⟨o0, o1, o2, o3, o4, o5, o6, o7, o8⟩ := nine hblk'
      obtain ⟨f0, f1, f2, f3, f4, f5, f6, f7, f8⟩ := nine_fr hblk'
      have HP := Lib.hid (put9 (v0 := .int .i64 n) (v1 := .int .u64 (a : Int)) (v2 := .int .u64 (b : Int)) (v3 := .int .u64 (c : Int)) (v4 := .int .u64 (d : Int)) (v5 := .int .u64 (e : Int)) (v6 := .int .u64 (f : Int)) (v7 := .int .u64 (g : Int)) (v8 := .int .u64 (i : Int)) hblk')
      have HW := Lib.hid hw
      have HG := Lib.hid (grown_of_below (r := some B) HB.out)
      clear hblk hblk' hZ hw hw'
      go_wp2_with fail
      go_ret
      exact ⟨grown_tr HG.out HP.out.2, .inl ⟨out, HZ.out.symm, hol, rfl, ⟨[a, b, c, d, e, f, g, i], HP.out.1, HW.out⟩⟩⟩
    · have hZ : rstG r.data.toList 0 false out = Z := by have := HL.out; unfold LeftR at this; rw [if_pos rfl] at this; exact this
      have HZ := Lib.hid hZ
      clear hZ HL
      rcases idx_cases r.data.toList with ⟨h1, h2⟩ | ⟨i, h1, h2, h3, h4⟩
      · have HCut := Lib.hid (fun W => cut_no r h1 W)
        have HZ1 : Hid ((numOk r.data.toList → some (mark out (numF r.data.toList)) = Z) ∧ (¬ numOk r.data.toList → Z = none)) := Lib.hid ⟨fun h => by rw [← HZ.out, (rst_one _ out h2).1 h], fun h => by rw [← HZ.out, (rst_one _ out h2).2 h]⟩
        clear h1 h2
        obtain ⟨D, hD⟩ : ∃ D, D = r := ⟨_, rfl⟩
        subst hD
        have hnb := fold_le D.data.toList
        by_cases hok : numOk D.data.toList
        · have HNy := Lib.hid (fun W => number_yes D (by omega) hok W)
          have HZ2 := Lib.hid (HZ1.out.1 hok)
          have hml := mark_len out (numF D.data.toList)
          have hw : IntKind.i64.wrap ((numF D.data.toList : Int) - 1) = (numF D.data.toList : Int) - 1 := IntWalk.i64_in _ (by omega)
          have HW := Lib.hid hw
          have HMy := Lib.hid (fun c d (hc : c < out.length) => mark_yes out c d hc)
          have HMn := Lib.hid (fun N hN => mark_no out N hN)
          clear hok hw
          generalize numF D.data.toList = N at *
          by_cases hN : 0 ≤ (N : Int) - 1 ∧ (N : Int) - 1 < n
          · obtain ⟨c, rfl⟩ : ∃ c, N = c + 1 := ⟨N - 1, by omega⟩
            have hc : c < n := by omega
            have HSt := Lib.hid (fun W s' => set_yes w.heap.size n (hOf out) c hc W s')
            have HTo := Lib.hid (fun d => HMy.out c d (by omega))
            have HW2 : Hid (IntKind.i64.wrap (((c + 1 : Nat) : Int) - 1) = (c : Int)) := Lib.hid (by rw [HW.out]; omega)
            clear hN
            generalize hM : mark out (c + 1) = out2 at *
            have hcast : ((c + 1 : Nat) : Int) = (c : Int) + 1 := by omega
            go_wp2_with fail
            refine (HCut.out _).mono ?_
            rintro e w1 ⟨rfl, hb1⟩
            have HT1 := Lib.hid (HT.out.next hb1)
            have HB1 := Lib.hid (HB.out.trans (hb1.mono HB.out.size))
            clear hb1
            go_wp2_with fail
            refine (HNy.out _).mono ?_
            rintro e w2 ⟨rfl, rfl⟩
            go_wp2_with fail
            refine (HSt.out _ HT1.out).mono ?_
            rintro e w2 ⟨rfl, hst2, hg2⟩
            have HT2 := Lib.hid (hst2.to (fun d _ => HTo.out d))
            have HB2 := Lib.hid (below_of_grown HB1.out hg2 HB1.out.size (Nat.le_refl _))
            clear hst2 hg2
            go_wp2_with fail
            go_roundw
            case rel => exact ⟨_, out2, _, rfl, rfl, Nat.zero_le _, by omega, HT2.out, HB2.out, by unfold LeftR; first | (rw [if_pos rfl]; exact HZ2.out) | (rw [if_neg (by simp)]; exact HZ2.out)⟩
            case measure => simp
          · have HSn := Lib.hid (fun W s' => set_no w.heap.size n (hOf out) ((N : Int) - 1) hN W s')
            have hM := HMn.out N (by rw [hol]; exact hN)
            rw [hM] at HZ2
            have hw := HW.out
            clear hN hM
            go_wp2_with fail
            refine (HCut.out _).mono ?_
            rintro e w1 ⟨rfl, hb1⟩
            have HT1 := Lib.hid (HT.out.next hb1)
            have HB1 := Lib.hid (HB.out.trans (hb1.mono HB.out.size))
            clear hb1
            go_wp2_with fail
            refine (HNy.out _).mono ?_
            rintro e w2 ⟨rfl, rfl⟩
            go_wp2_with fail
            refine (HSn.out _ HT1.out).mono ?_
            rintro e w2 ⟨rfl, hst2, hg2⟩
            have HT2 := Lib.hid hst2
            have HB2 := Lib.hid (below_of_grown HB1.out hg2 HB1.out.size (Nat.le_refl _))
            clear hst2 hg2 hw
            go_wp2_with fail
            go_roundw
            case rel => exact ⟨_, out, _, rfl, rfl, Nat.zero_le _, by omega, HT2.out, HB2.out, by unfold LeftR; first | (rw [if_pos rfl]; exact HZ2.out) | (rw [if_neg (by simp)]; exact HZ2.out)⟩
            case measure => simp
        · have HNn := Lib.hid (fun W => number_no D (by omega) hok W)
          have HZ2 := Lib.hid (HZ1.out.2 hok)
          clear hok
          go_wp2_with fail
          refine (HCut.out _).mono ?_
          rintro e w1 ⟨rfl, hb1⟩
          have HT1 := Lib.hid (HT.out.next hb1)
          have HB1 := Lib.hid (HB.out.trans (hb1.mono HB.out.size))
          clear hb1
          go_wp2_with fail
          refine (HNn.out _).mono ?_
          rintro e w2 ⟨rfl, rfl⟩
          go_wp2_with fail
          go_ret
          exact ⟨grown_of_below HB1.out, .inr ⟨HZ2.out, rfl, HS.out.next HB1.out⟩⟩
      · have hir : i < r.size := by rw [← data_len]; exact h2
        have HCut := Lib.hid (fun W => cut_yes r i h1 hir (by omega) W)
        have e1 : (r.extract 0 i).data.toList = r.data.toList.take i := by rw [Lib.extract_data, List.drop_zero, Nat.sub_zero]
        have e2 : (r.extract (i + 1) r.size).data.toList = r.data.toList.drop (i + 1) := by
          rw [Lib.extract_data, List.take_of_length_le]
          rw [List.length_drop, data_len]
          exact Nat.le_refl _
        have HZ1 : Hid ((numOk (r.extract 0 i).data.toList → rstG (r.extract (i + 1) r.size).data.toList 0 false (mark out (numF (r.extract 0 i).data.toList)) = Z) ∧ (¬ numOk (r.extract 0 i).data.toList → Z = none)) := Lib.hid (by
          have hz := HZ.out
          rw [h3] at hz
          rw [e1, e2]
          exact ⟨fun h => by rw [← hz, (rst_more _ _ out h4).1 h], fun h => by rw [← hz, (rst_more _ _ out h4).2 h]⟩)
        have hs1 : (r.extract 0 i).size = i := by simp; omega
        have hs2 : (r.extract (i + 1) r.size).size = r.size - (i + 1) := by simp
        clear h1 h2 h3 h4 e1 e2
        generalize r.extract 0 i = D at *
        generalize r.extract (i + 1) r.size = R2 at *
        have hnb := fold_le D.data.toList
        by_cases hok : numOk D.data.toList
        · have HNy := Lib.hid (fun W => number_yes D (by omega) hok W)
          have HZ2 := Lib.hid (HZ1.out.1 hok)
          have hml := mark_len out (numF D.data.toList)
          have hw : IntKind.i64.wrap ((numF D.data.toList : Int) - 1) = (numF D.data.toList : Int) - 1 := IntWalk.i64_in _ (by omega)
          have HW := Lib.hid hw
          have HMy := Lib.hid (fun c d (hc : c < out.length) => mark_yes out c d hc)
          have HMn := Lib.hid (fun N hN => mark_no out N hN)
          clear hok hw
          generalize numF D.data.toList = N at *
          by_cases hN : 0 ≤ (N : Int) - 1 ∧ (N : Int) - 1 < n
          · obtain ⟨c, rfl⟩ : ∃ c, N = c + 1 := ⟨N - 1, by omega⟩
            have hc : c < n := by omega
            have HSt := Lib.hid (fun W s' => set_yes w.heap.size n (hOf out) c hc W s')
            have HTo := Lib.hid (fun d => HMy.out c d (by omega))
            have HW2 : Hid (IntKind.i64.wrap (((c + 1 : Nat) : Int) - 1) = (c : Int)) := Lib.hid (by rw [HW.out]; omega)
            clear hN
            generalize hM : mark out (c + 1) = out2 at *
            have hcast : ((c + 1 : Nat) : Int) = (c : Int) + 1 := by omega
            go_wp2_with fail
            refine (HCut.out _).mono ?_
            rintro e w1 ⟨rfl, hb1⟩
            have HT1 := Lib.hid (HT.out.next hb1)
            have HB1 := Lib.hid (HB.out.trans (hb1.mono HB.out.size))
            clear hb1
            go_wp2_with fail
            refine (HNy.out _).mono ?_
            rintro e w2 ⟨rfl, rfl⟩
            go_wp2_with fail
            refine (HSt.out _ HT1.out).mono ?_
            rintro e w2 ⟨rfl, hst2, hg2⟩
            have HT2 := Lib.hid (hst2.to (fun d _ => HTo.out d))
            have HB2 := Lib.hid (below_of_grown HB1.out hg2 HB1.out.size (Nat.le_refl _))
            clear hst2 hg2
            go_wp2_with fail
            go_roundw
            case rel => exact ⟨_, out2, _, rfl, rfl, by omega, by omega, HT2.out, HB2.out, by unfold LeftR; first | (rw [if_pos rfl]; exact HZ2.out) | (rw [if_neg (by simp)]; exact HZ2.out)⟩
            case measure => simp; omega
          · have HSn := Lib.hid (fun W s' => set_no w.heap.size n (hOf out) ((N : Int) - 1) hN W s')
            have hM := HMn.out N (by rw [hol]; exact hN)
            rw [hM] at HZ2
            have hw := HW.out
            clear hN hM
            go_wp2_with fail
            refine (HCut.out _).mono ?_
            rintro e w1 ⟨rfl, hb1⟩
            have HT1 := Lib.hid (HT.out.next hb1)
            have HB1 := Lib.hid (HB.out.trans (hb1.mono HB.out.size))
            clear hb1
            go_wp2_with fail
            refine (HNy.out _).mono ?_
            rintro e w2 ⟨rfl, rfl⟩
            go_wp2_with fail
            refine (HSn.out _ HT1.out).mono ?_
            rintro e w2 ⟨rfl, hst2, hg2⟩
            have HT2 := Lib.hid hst2
            have HB2 := Lib.hid (below_of_grown HB1.out hg2 HB1.out.size (Nat.le_refl _))
            clear hst2 hg2 hw
            go_wp2_with fail
            go_roundw
            case rel => exact ⟨_, out, _, rfl, rfl, by omega, by omega, HT2.out, HB2.out, by unfold LeftR; first | (rw [if_pos rfl]; exact HZ2.out) | (rw [if_neg (by simp)]; exact HZ2.out)⟩
            case measure => simp; omega
        · have HNn := Lib.hid (fun W => number_no D (by omega) hok W)
          have HZ2 := Lib.hid (HZ1.out.2 hok)
          clear hok
          go_wp2_with fail
          refine (HCut.out _).mono ?_
          rintro e w1 ⟨rfl, hb1⟩
          have HT1 := Lib.hid (HT.out.next hb1)
          have HB1 := Lib.hid (HB.out.trans (hb1.mono HB.out.size))
          clear hb1
          go_wp2_with fail
          refine (HNn.out _).mono ?_
          rintro e w2 ⟨rfl, rfl⟩
          go_wp2_with fail
          go_ret
          exact ⟨grown_of_below HB1.out, .inr ⟨HZ2.out, rfl, HS.out.next HB1.out⟩⟩
end Go.Proofs.YtnfdgioapbkonaaDoor

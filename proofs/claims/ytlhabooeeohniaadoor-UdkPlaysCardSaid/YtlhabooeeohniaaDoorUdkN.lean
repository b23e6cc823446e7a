/-
  The reference's Define.
-/
import Derived.Test.YtlhabooeeohniaaDoorUdkM
namespace Go.Proofs.YtlhabooeeohniaaDoor
open Go Go.RowKit

theorem RTx.store {w : World} {A : Option Addr} {l : List Tx} (h : RTx w A l) (p : Addr) (hne : 0 < l.length → ∀ ad, A = some ad → ad.block ≠ p.block) (u : Value) : RTx (w.setCell p u) A l := by
  refine ⟨h.1, fun hn => ?_⟩
  obtain ⟨ad, e, hb, hc⟩ := h.2 hn
  refine ⟨ad, e, by simpa [World.setCell] using hb, fun j v hv => ?_⟩
  rw [World.cell?_setCell_other w p _ u (fun e' => hne hn ad e (by rw [e', block_of_add]))]
  exact hc j v hv
theorem RTx.lt {w : World} {A : Option Addr} {l : List Tx} (h : RTx w A l) : 0 < l.length → ∀ ad, A = some ad → ad.block < w.heap.size := fun hn ad e => by
  obtain ⟨ad', e', hb, _⟩ := h.2 hn
  rw [e] at e'
  injection e' with e'
  subst e'
  exact hb
theorem take_no (l : List Nat) (b k : Nat) (hb : b ≤ k) (hk : k < l.length) (hno : ∀ c ∈ (l.take k).drop b, c ≠ 59) (hc : l[k] ≠ 59) : ∀ c ∈ (l.take (k + 1)).drop b, c ≠ 59 := by
  intro c hm
  rw [List.take_succ_eq_append_getElem hk, List.drop_append_of_le_length (by simp; omega)] at hm
  rcases List.mem_append.1 hm with h | h
  · exact hno c h
  · simp at h; subst h; exact hc
theorem nb_at (s : ByteArray) (k : Nat) (h : k < s.size) : (nb s)[k]? = some (s[k]).toNat := by
  unfold nb natL
  rw [List.getElem?_map, List.getElem?_eq_getElem (by rw [Array.length_toList]; exact h)]
  rfl
/-- What is left to be done: the texts so far, those in the end. -/
def LeftD (s : ByteArray) (o : Option (List ByteArray)) (k b : Nat) (T : List ByteArray) : Prop :=
  (k ≤ s.size ∧ b ≤ k ∧ (∀ c ∈ ((nb s).take k).drop b, c ≠ 59) ∧ takeU T (pcs ((nb s).drop b)) = o) ∨ (k = s.size + 1 ∧ o = some T)
theorem left_piece (s : ByteArray) (o : Option (List ByteArray)) (k b : Nat) (T : List ByteArray) (hk : k ≤ s.size) (hb : b ≤ k) (hno : ∀ c ∈ ((nb s).take k).drop b, c ≠ 59) (ht : takeU T (pcs ((nb s).drop b)) = o) (he : k = s.size ∨ (nb s)[k]? = some 59) :
    (stepU T (nb (s.extract b k)) = none ∧ o = none) ∨ ∃ T2, stepU T (nb (s.extract b k)) = some T2 ∧ LeftD s o (k + 1) (k + 1) T2 := by
  rw [nb_ext]
  have hp : pcs ((nb s).drop b) = ((nb s).take k).drop b :: (if k = s.size then [] else pcs ((nb s).drop (k + 1))) := by
    rcases he with h | h
    · rw [if_pos h]
      have e := pcs_end_at (nb s) b (by rw [nb_len, ← h]; exact hno)
      rw [e, nb_len, ← h]
    · rw [if_neg (by obtain ⟨h1, _⟩ := List.getElem?_eq_some_iff.1 h; rw [nb_len] at h1; omega)]
      exact pcs_semi_at (nb s) b k hb hno h
  rw [hp, takeU_cons] at ht
  cases hs : stepU T (((nb s).take k).drop b) with
  | none => rw [hs] at ht; exact .inl ⟨rfl, ht.symm⟩
  | some T2 =>
    rw [hs] at ht
    refine .inr ⟨T2, rfl, ?_⟩
    have ht2 : takeU T2 (if k = s.size then [] else pcs ((nb s).drop (k + 1))) = o := ht
    by_cases hz : k = s.size
    · rw [if_pos hz] at ht2
      exact .inr ⟨by omega, ht2.symm⟩
    · rw [if_neg hz] at ht2
      refine .inl ⟨by omega, Nat.le_refl _, fun c hc => ?_, ht2⟩
      rw [List.drop_of_length_le (by simp; omega)] at hc
      cases hc
/-- What Define answers. -/
def DefA (T : List ByteArray) (lk lo : Bool) (o : Option (List ByteArray)) : Int × List ByteArray × Bool := match o with
  | none => (3, T, lk)
  | some T' => if 804 < usedT T' then (5, T, lk) else if lk then (6, T, lk) else (0, T', lo)
theorem defA_eq (T : List ByteArray) (lk cl lo : Bool) (l : List Nat) : defU T lk cl lo l = DefA T lk lo (takeU (if cl then noT else T) (pcs l)) := rfl
theorem keyBlk2 {w : World} {R : Nat} {t : TypeId} {x y : Value} (h : Blk w R t #[x, y]) (u v : Value) : Blk ((w.setCell ⟨R, 0, none⟩ u).setCell ⟨R, 1, none⟩ v) R t #[u, v] := by
  have := (h.set_ 0 u).set_ 1 v
  simpa using this

set_option maxRecDepth 100000 in
set_option maxHeartbeats 8000000 in
theorem refDef_any (A : Option Addr) (c : Nat) (T : List ByteArray) (lk cl lo : Bool) (s : ByteArray) (hs : s.size ≤ 100000) (w : World) (hr : RTx w A (listU T)) (hT : ShortT T) :
    Calls Tryd.prog 22 #[.agg #[.slice A (listU T).length c, .bool lk], .bool cl, .bool lo, .string s] w fun e w' => ∃ A' c', e = .returned (.tuple #[.agg #[.slice A' (listU (defU T lk cl lo (nb s)).2.1).length c', .bool (defU T lk cl lo (nb s)).2.2], .int .i64 (defU T lk cl lo (nb s)).1]) ∧ RTx w' A' (listU (defU T lk cl lo (nb s)).2.1) ∧ (A' = A ∧ listU (defU T lk cl lo (nb s)).2.1 = listU T ∨ ∀ ad, A' = some ad → w.heap.size ≤ ad.block) ∧ Below w.heap.size w w' := by
  obtain ⟨T0, hT0⟩ : ∃ T0, (if cl then noT else T) = T0 := ⟨_, rfl⟩
  obtain ⟨o, ho⟩ : ∃ o, takeU T0 (pcs (nb s)) = o := ⟨_, rfl⟩
  obtain ⟨R, hR⟩ : ∃ R, R = defU T lk cl lo (nb s) := ⟨_, rfl⟩
  rw [← hR]
  rw [defA_eq, hT0, ho] at hR
  have hS0 : ShortT T0 := by rw [← hT0]; cases cl; exact hT; exact noT_short
  have HR := Lib.hid hR
  have HX := Lib.hid hr
  obtain ⟨K, hK⟩ : ∃ K, K = w.heap.size := ⟨_, rfl⟩
  have hll : (listU T).length ≤ 15 := by have := listF_len T 0; rw [hT.1] at this; exact this
  have b0 := (Blk.new w 29 #[.slice A (listU T).length c, .bool lk]).alloc (.cells #[.slice none 0 0, .bool false] 29)
  have b1 := Blk.new (w.alloc (.cells #[.slice A (listU T).length c, .bool lk] 29)) 29 #[.slice none 0 0, .bool false]
  rw [World.size_alloc] at b1
  have hB1 : Below w.heap.size w ((w.alloc (.cells #[.slice A (listU T).length c, .bool lk] 29)).alloc (.cells #[.slice none 0 0, .bool false] 29)) := ((Below.refl _ w).alloc (Nat.le_refl _) _).alloc (by simp) _
  have c00 := b0.cell 0
  have c01 := b0.cell 1
  clear hr hR
  --#1
  go_enter Tryd.func22, Tryd.ntmps22
  rcases cl with _ | _
  · obtain rfl : T = T0 := hT0
    go_upto_region 6 with fail
    have hr0 := HX.out
    have hlt0 : A = A ∧ listU T = listU T ∨ ∀ ad, A = some ad → w.heap.size + 2 ≤ ad.block := .inl ⟨rfl, rfl⟩
    replace ho := Lib.hid ho
    have B0 := Lib.hid b0; have B1 := Lib.hid b1; have HB0 := Lib.hid hB1
    clear b0 b1 hB1 c00 c01
    generalize ((w.alloc (.cells #[.slice A (listU T).length c, .bool lk] 29)).alloc (.cells #[.slice none 0 0, .bool false] 29)) = W0 at *
    have HL0 : Hid (LeftD s o 0 0 T) := Lib.hid (.inl ⟨by omega, by omega, by simp, ho.out⟩)
    have HR0 := Lib.hid (hr0.next HB0.out); have HLt := Lib.hid hlt0
    have hW0 : w.heap.size + 2 ≤ W0.heap.size := by have := B1.out.lt; omega
    clear hr0 hlt0 ho
    --#2
    go_loopw [10, 11, 12] (fun v bg i wr => ∃ (k b : Nat) (T1 : List ByteArray) (A1 : Option Addr) (c1 : Nat), k ≤ s.size + 1 ∧ v = .slice A1 (listU T1).length c1 ∧ bg = .int .i64 b ∧ i = .int .i64 k ∧ RTx wr A1 (listU T1) ∧ ShortT T1 ∧ (A1 = A ∧ listU T1 = listU T ∨ ∀ ad, A1 = some ad → w.heap.size + 2 ≤ ad.block) ∧ LeftD s o k b T1 ∧ Below W0.heap.size W0 wr) (fun _ _ i _ => s.size + 1 - (intOf i).toNat)
    case atStart => exact ⟨0, 0, T, _, _, by omega, rfl, rfl, rfl, HR0.out, hS0, HLt.out, HL0.out, Below.refl _ _⟩
    case round =>
      obtain ⟨k, b, T1, A1, c1, hk1, rfl, rfl, rfl, hr1, hs1, hn1, hleft, hb5⟩ := hrel
      have HN1 := Lib.hid hn1
      have hne1 : 0 < (listU T1).length → ∀ ad, A1 = some ad → ad.block ≠ w.heap.size + 1 := fun hn ad e => by
        rcases hn1 with ⟨h1, h2⟩ | h
        · have := HX.out.lt (by rw [← h2]; exact hn) ad (by rw [← h1]; exact e); omega
        · have := h ad e; omega
      clear hn1
      have HR1 := Lib.hid hr1; have HS1 := Lib.hid hs1; have HNe := Lib.hid hne1; have HB5 := Lib.hid hb5
      have hl1 : (listU T1).length ≤ 15 := by have := listF_len T1 0; rw [hs1.1] at this; exact this
      have hwk : IntKind.i64.wrap ((k : Int) + 1) = (k : Int) + 1 := IntWalk.i64_in _ (by omega)
      clear hr1 hs1 hne1 HL0 HR0 HLt
      rcases hleft with ⟨hks, hbk, hno, htk⟩ | ⟨hks, hos⟩
      · have m1 : ((k : Int) ≤ (s.size : Int)) = True := eq_true (by omega)
        have hpc : (k < s.size ∧ (nb s)[k]? ≠ some 59) ∨ (k = s.size ∨ (nb s)[k]? = some 59) := by
          by_cases h1 : k = s.size
          · exact .inr (.inl h1)
          · by_cases h2 : (nb s)[k]? = some 59
            · exact .inr (.inr h2)
            · exact .inl ⟨by omega, h2⟩
        rcases hpc with ⟨hlt, hc⟩ | hend
        · rw [nb_at s k hlt] at hc
          have hc59 : (s[k]).toNat ≠ 59 := fun e => hc (by rw [e])
          have m2 : ((k : Int) < (s.size : Int)) = True := eq_true (by omega)
          have m3 : (((s[k]).toNat : Int) != 59) = true := by simp; omega
          have m4 : (0 : Int) ≤ (k : Int) := by omega
          have HLn : Hid (LeftD s o (k + 1) b T1) := Lib.hid (.inl ⟨by omega, by omega, take_no (nb s) b k hbk (by rw [nb_len]; exact hlt) hno (by have e := nb_at s k hlt; rw [List.getElem?_eq_getElem (by rw [nb_len]; exact hlt)] at e; injection e with e; rw [e]; exact hc59), htk⟩)
          clear hno htk hc hb5
          --#3
          go_wp2_with fail
          go_roundw
          case rel => exact ⟨k + 1, b, T1, A1, c1, by omega, rfl, rfl, by go_num, HR1.out, HS1.out, HN1.out, HLn.out, HB5.out⟩
          case measure => simp [intOf]; omega
        · have hpp := left_piece s o k b T1 hks hbk hno htk hend
          have hO := fun W r => one_any A1 c1 (listU T1) (by omega) (s.extract b k) (by rw [ByteArray.size_extract]; omega) W r
          have hstep := oneL_step T1 HS1.out.1 (nb (s.extract b k)) (nb_lt _)
          rw [hstep] at hO
          have hsh : ∀ T2, stepU T1 (nb (s.extract b k)) = some T2 → ShortT T2 := fun T2 h => stepU_short T1 _ T2 HS1.out (by rw [nb_len, ByteArray.size_extract]; omega) h
          have g1 : (0 : Int) ≤ (b : Int) := by omega
          have g2 : (b : Int) ≤ (k : Int) := by omega
          have g3 : (k : Int) ≤ (s.size : Int) := by omega
          have m5 : (k = s.size ∧ ((k : Int) < (s.size : Int)) = False) ∨ (k < s.size ∧ ((k : Int) < (s.size : Int)) = True ∧ ∀ (h : k < s.size), (((s[k]).toNat : Int) != 59) = false) := by
            by_cases h1 : k = s.size
            · exact .inl ⟨h1, eq_false (by omega)⟩
            · refine .inr ⟨by omega, eq_true (by omega), fun h => ?_⟩
              rcases hend with h2 | h2
              · exact absurd h2 h1
              · rw [nb_at s k h] at h2; injection h2 with h2; simp [h2]
          have HPP := Lib.hid hpp; have HSh := Lib.hid hsh; have HO := Lib.hid hO
          clear hno htk hpp hO hstep hsh hend
          generalize stepU T1 (nb (s.extract b k)) = st at *
          have hsl : ∀ W, (Instr.slice 9 (.string s) (some (.int .i64 (b : Int))) (some (.int .i64 (k : Int))) none).run Tryd.prog W = .ok (.string (s.extract b k)) W := fun W => run_slice_string (w := W) 9 s .i64 .i64 b k Tryd.underlying9 (by omega) (by omega) (by omega)
          --#4
          rcases m5 with ⟨hz, m2⟩ | ⟨hz, m2, m6⟩
          · clear hz
            rcases st with _ | T2
            · have HOn : Hid (∀ W (r : RTx W A1 (listU T1)), Calls Tryd.prog 28 #[.slice A1 (listU T1).length c1, .string (s.extract b k)] W fun e w' => e = .returned (.tuple #[.slice A1 (listU T1).length c1, .bool false]) ∧ Below W.heap.size W w') := HO
              have HRR : Hid (R = (3, T, lk)) := Lib.hid (by
                rcases HPP.out with ⟨_, h⟩ | ⟨T2, h, _⟩
                · rw [HR.out, h]; rfl
                · cases h)
              clear HO HPP HSh HR
              --#5
              go_wp2_with fail
              refine (HOn.out _ HR1.out).mono ?_
              rintro e w6 ⟨rfl, hb6⟩
              replace hb5 := hb5.trans (hb6.mono hb5.size)
              clear hb6
              have q0 := (B0.out.next hb5).cell 0
              have q1 := (B0.out.next hb5).cell 1
              have hR1 := B1.out.next hb5
              have r0 := hR1.cell 0
              have r1 := hR1.cell 1
              have f0 := hR1.frozen 0
              have f1 := hR1.frozen 1
              have HW := Lib.hid (keyBlk2 hR1 (.slice A (listU T).length c) (.bool lk))
              have HBw := Lib.hid (((HB0.out.trans (hb5.mono HB0.out.size)).setCell (p := ⟨w.heap.size + 1, 0, none⟩) (by simp) (.slice A (listU T).length c)).setCell (p := ⟨w.heap.size + 1, 1, none⟩) (by simp) (.bool lk))
              have HXw := Lib.hid (((HX.out.next (HB0.out.trans (hb5.mono HB0.out.size))).store ⟨w.heap.size + 1, 0, none⟩ (fun hn ad e => by have := HX.out.lt hn ad e; show ad.block ≠ w.heap.size + 1; omega) (.slice A (listU T).length c)).store ⟨w.heap.size + 1, 1, none⟩ (fun hn ad e => by have := HX.out.lt hn ad e; show ad.block ≠ w.heap.size + 1; omega) (.bool lk))
              clear hR1
              go_wp2_with fail
              have e0 := HW.out.cell 0
              have e1 := HW.out.cell 1
              rw [HRR.out]
              refine bodyPost_ret (v := .tuple #[.agg #[.slice A (listU T).length c, .bool lk], .int .i64 3]) (by simp [results, Tryd.results22, go_sem, e0, e1]) rfl ?_
              exact ⟨A, c, rfl, HXw.out, .inl ⟨rfl, rfl⟩, HBw.out⟩
            · have HLn : Hid (LeftD s o (k + 1) (k + 1) T2) := Lib.hid (by
                rcases HPP.out with ⟨h, _⟩ | ⟨T3, h, h2⟩
                · cases h
                · injection h with h; subst h; exact h2)
              have HS2 := Lib.hid (HSh.out T2 rfl)
              have HOn : Hid (∀ W (r : RTx W A1 (listU T1)), Calls Tryd.prog 28 #[.slice A1 (listU T1).length c1, .string (s.extract b k)] W fun e w' => (∃ A' c', e = .returned (.tuple #[.slice A' (listU T2).length c', .bool true]) ∧ RTx w' A' (listU T2) ∧ (A' = A1 ∧ listU T2 = listU T1 ∨ ∀ ad, A' = some ad → W.heap.size ≤ ad.block)) ∧ Below W.heap.size W w') := HO
              clear HO HPP HSh
              --#6
              go_wp2_with fail
              refine (HOn.out _ HR1.out).mono ?_
              rintro e w6 ⟨⟨A2, c2, rfl, hr2, hfa⟩, hb6⟩
              have HB6 := Lib.hid (HB5.out.trans (hb6.mono HB5.out.size))
              have HR2 := Lib.hid hr2
              have HN2 : Hid (A2 = A ∧ listU T2 = listU T ∨ ∀ ad, A2 = some ad → w.heap.size + 2 ≤ ad.block) := Lib.hid (by
                rcases hfa with ⟨h1, h2⟩ | h
                · rw [h1, h2]; exact HN1.out
                · exact .inr fun ad e => by have h3 := h ad e; have h4 := HB5.out.size; omega)
              clear hb6 hr2 hfa
              --#7
              go_wp2_with fail
              go_roundw
              case rel => exact ⟨k + 1, k + 1, T2, A2, c2, by omega, rfl, by go_num, by go_num, HR2.out, HS2.out, HN2.out, HLn.out, HB6.out⟩
              case measure => simp [intOf]; omega
          · have m3 := m6 hz
            have m4 : (0 : Int) ≤ (k : Int) := by omega
            clear m6
            rcases st with _ | T2
            · have HOn : Hid (∀ W (r : RTx W A1 (listU T1)), Calls Tryd.prog 28 #[.slice A1 (listU T1).length c1, .string (s.extract b k)] W fun e w' => e = .returned (.tuple #[.slice A1 (listU T1).length c1, .bool false]) ∧ Below W.heap.size W w') := HO
              have HRR : Hid (R = (3, T, lk)) := Lib.hid (by
                rcases HPP.out with ⟨_, h⟩ | ⟨T2, h, _⟩
                · rw [HR.out, h]; rfl
                · cases h)
              clear HO HPP HSh HR
              --#5
              go_wp2_with fail
              refine (HOn.out _ HR1.out).mono ?_
              rintro e w6 ⟨rfl, hb6⟩
              replace hb5 := hb5.trans (hb6.mono hb5.size)
              clear hb6
              have q0 := (B0.out.next hb5).cell 0
              have q1 := (B0.out.next hb5).cell 1
              have hR1 := B1.out.next hb5
              have r0 := hR1.cell 0
              have r1 := hR1.cell 1
              have f0 := hR1.frozen 0
              have f1 := hR1.frozen 1
              have HW := Lib.hid (keyBlk2 hR1 (.slice A (listU T).length c) (.bool lk))
              have HBw := Lib.hid (((HB0.out.trans (hb5.mono HB0.out.size)).setCell (p := ⟨w.heap.size + 1, 0, none⟩) (by simp) (.slice A (listU T).length c)).setCell (p := ⟨w.heap.size + 1, 1, none⟩) (by simp) (.bool lk))
              have HXw := Lib.hid (((HX.out.next (HB0.out.trans (hb5.mono HB0.out.size))).store ⟨w.heap.size + 1, 0, none⟩ (fun hn ad e => by have := HX.out.lt hn ad e; show ad.block ≠ w.heap.size + 1; omega) (.slice A (listU T).length c)).store ⟨w.heap.size + 1, 1, none⟩ (fun hn ad e => by have := HX.out.lt hn ad e; show ad.block ≠ w.heap.size + 1; omega) (.bool lk))
              clear hR1
              go_wp2_with fail
              have e0 := HW.out.cell 0
              have e1 := HW.out.cell 1
              rw [HRR.out]
              refine bodyPost_ret (v := .tuple #[.agg #[.slice A (listU T).length c, .bool lk], .int .i64 3]) (by simp [results, Tryd.results22, go_sem, e0, e1]) rfl ?_
              exact ⟨A, c, rfl, HXw.out, .inl ⟨rfl, rfl⟩, HBw.out⟩
            · have HLn : Hid (LeftD s o (k + 1) (k + 1) T2) := Lib.hid (by
                rcases HPP.out with ⟨h, _⟩ | ⟨T3, h, h2⟩
                · cases h
                · injection h with h; subst h; exact h2)
              have HS2 := Lib.hid (HSh.out T2 rfl)
              have HOn : Hid (∀ W (r : RTx W A1 (listU T1)), Calls Tryd.prog 28 #[.slice A1 (listU T1).length c1, .string (s.extract b k)] W fun e w' => (∃ A' c', e = .returned (.tuple #[.slice A' (listU T2).length c', .bool true]) ∧ RTx w' A' (listU T2) ∧ (A' = A1 ∧ listU T2 = listU T1 ∨ ∀ ad, A' = some ad → W.heap.size ≤ ad.block)) ∧ Below W.heap.size W w') := HO
              clear HO HPP HSh
              --#6
              go_wp2_with fail
              refine (HOn.out _ HR1.out).mono ?_
              rintro e w6 ⟨⟨A2, c2, rfl, hr2, hfa⟩, hb6⟩
              have HB6 := Lib.hid (HB5.out.trans (hb6.mono HB5.out.size))
              have HR2 := Lib.hid hr2
              have HN2 : Hid (A2 = A ∧ listU T2 = listU T ∨ ∀ ad, A2 = some ad → w.heap.size + 2 ≤ ad.block) := Lib.hid (by
                rcases hfa with ⟨h1, h2⟩ | h
                · rw [h1, h2]; exact HN1.out
                · exact .inr fun ad e => by have h3 := h ad e; have h4 := HB5.out.size; omega)
              clear hb6 hr2 hfa
              --#7
              go_wp2_with fail
              go_roundw
              case rel => exact ⟨k + 1, k + 1, T2, A2, c2, by omega, rfl, by go_num, by go_num, HR2.out, HS2.out, HN2.out, HLn.out, HB6.out⟩
              case measure => simp [intOf]; omega
      · subst hks
        have m1 : ((((s.size + 1 : Nat) : Int)) ≤ (s.size : Int)) = False := eq_false (by omega)
        have HUs := Lib.hid (fun W r => usedL_any A1 c1 (listU T1) (by omega) (by unfold listU; rw [usedF_eq]; exact HS1.out.used) W r)
        have hue : usedL (listU T1) = usedT T1 := usedF_eq T1 0
        rw [hue] at HUs
        have HRn : Hid (R = if 804 < usedT T1 then (5, T, lk) else if lk then (6, T, lk) else (0, T1, lo)) := Lib.hid (by rw [HR.out, hos]; rfl)
        clear hue HR hos
        generalize hus : usedT T1 = u at *
        replace hus := Lib.hid hus
        --#8
        go_wp2_with fail
        refine (HUs.out _ HR1.out).mono ?_
        rintro e w6 ⟨rfl, rfl⟩
        by_cases hbig : 804 < u
        · have m2 : ((804 : Int) < (u : Int)) = True := eq_true (by omega)
          have HRR : Hid (R = (5, T, lk)) := Lib.hid (by rw [HRn.out, if_pos hbig])
          clear HRn hbig
          have q0 := (B0.out.next hb5).cell 0
          have q1 := (B0.out.next hb5).cell 1
          have hR1 := B1.out.next hb5
          have r0 := hR1.cell 0
          have r1 := hR1.cell 1
          have f0 := hR1.frozen 0
          have f1 := hR1.frozen 1
          have HW := Lib.hid (keyBlk2 hR1 (.slice A (listU T).length c) (.bool lk))
          have HBw := Lib.hid (((HB0.out.trans (hb5.mono HB0.out.size)).setCell (p := ⟨w.heap.size + 1, 0, none⟩) (by simp) (.slice A (listU T).length c)).setCell (p := ⟨w.heap.size + 1, 1, none⟩) (by simp) (.bool lk))
          have HXw := Lib.hid (((HX.out.next (HB0.out.trans (hb5.mono HB0.out.size))).store ⟨w.heap.size + 1, 0, none⟩ (fun hn ad e => by have := HX.out.lt hn ad e; show ad.block ≠ w.heap.size + 1; omega) (.slice A (listU T).length c)).store ⟨w.heap.size + 1, 1, none⟩ (fun hn ad e => by have := HX.out.lt hn ad e; show ad.block ≠ w.heap.size + 1; omega) (.bool lk))
          clear hR1
          go_wp2_with fail
          have e0 := HW.out.cell 0
          have e1 := HW.out.cell 1
          rw [HRR.out]
          refine bodyPost_ret (v := .tuple #[.agg #[.slice A (listU T).length c, .bool lk], .int .i64 5]) (by simp [results, Tryd.results22, go_sem, e0, e1]) rfl ?_
          exact ⟨A, c, rfl, HXw.out, .inl ⟨rfl, rfl⟩, HBw.out⟩
        · have m2 : ((804 : Int) < (u : Int)) = False := eq_false (by omega)
          have HRm : Hid (R = if lk then (6, T, lk) else (0, T1, lo)) := Lib.hid (by rw [HRn.out, if_neg hbig])
          clear HRn hbig
          rcases lk with _ | _
          · have HRR : Hid (R = (0, T1, lo)) := HRm
            clear HRm
            have q1 := (B0.out.next hb5).cell 1
            have hR1 := B1.out.next hb5
            have r0 := hR1.cell 0
            have r1 := hR1.cell 1
            have f0 := hR1.frozen 0
            have f1 := hR1.frozen 1
            have HW := Lib.hid (keyBlk2 hR1 (.slice A1 (listU T1).length c1) (.bool lo))
            have HBw := Lib.hid (((HB0.out.trans (hb5.mono HB0.out.size)).setCell (p := ⟨w.heap.size + 1, 0, none⟩) (by simp) (.slice A1 (listU T1).length c1)).setCell (p := ⟨w.heap.size + 1, 1, none⟩) (by simp) (.bool lo))
            have HXw := Lib.hid ((HR1.out.store ⟨w.heap.size + 1, 0, none⟩ (fun hn ad e => HNe.out hn ad e) (.slice A1 (listU T1).length c1)).store ⟨w.heap.size + 1, 1, none⟩ (fun hn ad e => HNe.out hn ad e) (.bool lo))
            clear hR1
            --#9
            go_wp2_with fail
            have e0 := HW.out.cell 0
            have e1 := HW.out.cell 1
            rw [HRR.out]
            refine bodyPost_ret (v := .tuple #[.agg #[.slice A1 (listU T1).length c1, .bool lo], .int .i64 0]) (by simp [results, Tryd.results22, go_sem, e0, e1]) rfl ?_
            exact ⟨A1, c1, rfl, HXw.out, HN1.out.imp id (fun h ad e => by have := h ad e; omega), HBw.out⟩
          · have HRR : Hid (R = (6, T, true)) := HRm
            clear HRm
            have q0 := (B0.out.next hb5).cell 0
            have q1 := (B0.out.next hb5).cell 1
            have hR1 := B1.out.next hb5
            have r0 := hR1.cell 0
            have r1 := hR1.cell 1
            have f0 := hR1.frozen 0
            have f1 := hR1.frozen 1
            have HW := Lib.hid (keyBlk2 hR1 (.slice A (listU T).length c) (.bool true))
            have HBw := Lib.hid (((HB0.out.trans (hb5.mono HB0.out.size)).setCell (p := ⟨w.heap.size + 1, 0, none⟩) (by simp) (.slice A (listU T).length c)).setCell (p := ⟨w.heap.size + 1, 1, none⟩) (by simp) (.bool true))
            have HXw := Lib.hid (((HX.out.next (HB0.out.trans (hb5.mono HB0.out.size))).store ⟨w.heap.size + 1, 0, none⟩ (fun hn ad e => by have := HX.out.lt hn ad e; show ad.block ≠ w.heap.size + 1; omega) (.slice A (listU T).length c)).store ⟨w.heap.size + 1, 1, none⟩ (fun hn ad e => by have := HX.out.lt hn ad e; show ad.block ≠ w.heap.size + 1; omega) (.bool true))
            clear hR1
            go_wp2_with fail
            have e0 := HW.out.cell 0
            have e1 := HW.out.cell 1
            rw [HRR.out]
            refine bodyPost_ret (v := .tuple #[.agg #[.slice A (listU T).length c, .bool true], .int .i64 6]) (by simp [results, Tryd.results22, go_sem, e0, e1]) rfl ?_
            exact ⟨A, c, rfl, HXw.out, .inl ⟨rfl, rfl⟩, HBw.out⟩
  · obtain rfl : noT = T0 := hT0
    go_upto_region 6 with fail
    have hr0 : RTx w none (listU noT) := Reads.none_
    have hlt0 : (none : Option Addr) = A ∧ listU noT = listU T ∨ ∀ ad, (none : Option Addr) = some ad → w.heap.size + 2 ≤ ad.block := .inr fun ad e => by cases e
    replace ho := Lib.hid ho
    have B0 := Lib.hid b0; have B1 := Lib.hid b1; have HB0 := Lib.hid hB1
    clear b0 b1 hB1 c00 c01
    generalize ((w.alloc (.cells #[.slice A (listU T).length c, .bool lk] 29)).alloc (.cells #[.slice none 0 0, .bool false] 29)) = W0 at *
    have HL0 : Hid (LeftD s o 0 0 noT) := Lib.hid (.inl ⟨by omega, by omega, by simp, ho.out⟩)
    have HR0 := Lib.hid (hr0.next HB0.out); have HLt := Lib.hid hlt0
    have hW0 : w.heap.size + 2 ≤ W0.heap.size := by have := B1.out.lt; omega
    clear hr0 hlt0 ho
    --#2
    go_loopw [10, 11, 12] (fun v bg i wr => ∃ (k b : Nat) (T1 : List ByteArray) (A1 : Option Addr) (c1 : Nat), k ≤ s.size + 1 ∧ v = .slice A1 (listU T1).length c1 ∧ bg = .int .i64 b ∧ i = .int .i64 k ∧ RTx wr A1 (listU T1) ∧ ShortT T1 ∧ (A1 = A ∧ listU T1 = listU T ∨ ∀ ad, A1 = some ad → w.heap.size + 2 ≤ ad.block) ∧ LeftD s o k b T1 ∧ Below W0.heap.size W0 wr) (fun _ _ i _ => s.size + 1 - (intOf i).toNat)
    case atStart => exact ⟨0, 0, noT, _, _, by omega, rfl, rfl, rfl, HR0.out, hS0, HLt.out, HL0.out, Below.refl _ _⟩
    case round =>
      obtain ⟨k, b, T1, A1, c1, hk1, rfl, rfl, rfl, hr1, hs1, hn1, hleft, hb5⟩ := hrel
      have HN1 := Lib.hid hn1
      have hne1 : 0 < (listU T1).length → ∀ ad, A1 = some ad → ad.block ≠ w.heap.size + 1 := fun hn ad e => by
        rcases hn1 with ⟨h1, h2⟩ | h
        · have := HX.out.lt (by rw [← h2]; exact hn) ad (by rw [← h1]; exact e); omega
        · have := h ad e; omega
      clear hn1
      have HR1 := Lib.hid hr1; have HS1 := Lib.hid hs1; have HNe := Lib.hid hne1; have HB5 := Lib.hid hb5
      have hl1 : (listU T1).length ≤ 15 := by have := listF_len T1 0; rw [hs1.1] at this; exact this
      have hwk : IntKind.i64.wrap ((k : Int) + 1) = (k : Int) + 1 := IntWalk.i64_in _ (by omega)
      clear hr1 hs1 hne1 HL0 HR0 HLt
      rcases hleft with ⟨hks, hbk, hno, htk⟩ | ⟨hks, hos⟩
      · have m1 : ((k : Int) ≤ (s.size : Int)) = True := eq_true (by omega)
        have hpc : (k < s.size ∧ (nb s)[k]? ≠ some 59) ∨ (k = s.size ∨ (nb s)[k]? = some 59) := by
          by_cases h1 : k = s.size
          · exact .inr (.inl h1)
          · by_cases h2 : (nb s)[k]? = some 59
            · exact .inr (.inr h2)
            · exact .inl ⟨by omega, h2⟩
        rcases hpc with ⟨hlt, hc⟩ | hend
        · rw [nb_at s k hlt] at hc
          have hc59 : (s[k]).toNat ≠ 59 := fun e => hc (by rw [e])
          have m2 : ((k : Int) < (s.size : Int)) = True := eq_true (by omega)
          have m3 : (((s[k]).toNat : Int) != 59) = true := by simp; omega
          have m4 : (0 : Int) ≤ (k : Int) := by omega
          have HLn : Hid (LeftD s o (k + 1) b T1) := Lib.hid (.inl ⟨by omega, by omega, take_no (nb s) b k hbk (by rw [nb_len]; exact hlt) hno (by have e := nb_at s k hlt; rw [List.getElem?_eq_getElem (by rw [nb_len]; exact hlt)] at e; injection e with e; rw [e]; exact hc59), htk⟩)
          clear hno htk hc hb5
          --#3
          go_wp2_with fail
          go_roundw
          case rel => exact ⟨k + 1, b, T1, A1, c1, by omega, rfl, rfl, by go_num, HR1.out, HS1.out, HN1.out, HLn.out, HB5.out⟩
          case measure => simp [intOf]; omega
        · have hpp := left_piece s o k b T1 hks hbk hno htk hend
          have hO := fun W r => one_any A1 c1 (listU T1) (by omega) (s.extract b k) (by rw [ByteArray.size_extract]; omega) W r
          have hstep := oneL_step T1 HS1.out.1 (nb (s.extract b k)) (nb_lt _)
          rw [hstep] at hO
          have hsh : ∀ T2, stepU T1 (nb (s.extract b k)) = some T2 → ShortT T2 := fun T2 h => stepU_short T1 _ T2 HS1.out (by rw [nb_len, ByteArray.size_extract]; omega) h
          have g1 : (0 : Int) ≤ (b : Int) := by omega
          have g2 : (b : Int) ≤ (k : Int) := by omega
          have g3 : (k : Int) ≤ (s.size : Int) := by omega
          have m5 : (k = s.size ∧ ((k : Int) < (s.size : Int)) = False) ∨ (k < s.size ∧ ((k : Int) < (s.size : Int)) = True ∧ ∀ (h : k < s.size), (((s[k]).toNat : Int) != 59) = false) := by
            by_cases h1 : k = s.size
            · exact .inl ⟨h1, eq_false (by omega)⟩
            · refine .inr ⟨by omega, eq_true (by omega), fun h => ?_⟩
              rcases hend with h2 | h2
              · exact absurd h2 h1
              · rw [nb_at s k h] at h2; injection h2 with h2; simp [h2]
          have HPP := Lib.hid hpp; have HSh := Lib.hid hsh; have HO := Lib.hid hO
          clear hno htk hpp hO hstep hsh hend
          generalize stepU T1 (nb (s.extract b k)) = st at *
          have hsl : ∀ W, (Instr.slice 9 (.string s) (some (.int .i64 (b : Int))) (some (.int .i64 (k : Int))) none).run Tryd.prog W = .ok (.string (s.extract b k)) W := fun W => run_slice_string (w := W) 9 s .i64 .i64 b k Tryd.underlying9 (by omega) (by omega) (by omega)
          --#4
          rcases m5 with ⟨hz, m2⟩ | ⟨hz, m2, m6⟩
          · clear hz
            rcases st with _ | T2
            · have HOn : Hid (∀ W (r : RTx W A1 (listU T1)), Calls Tryd.prog 28 #[.slice A1 (listU T1).length c1, .string (s.extract b k)] W fun e w' => e = .returned (.tuple #[.slice A1 (listU T1).length c1, .bool false]) ∧ Below W.heap.size W w') := HO
              have HRR : Hid (R = (3, T, lk)) := Lib.hid (by
                rcases HPP.out with ⟨_, h⟩ | ⟨T2, h, _⟩
                · rw [HR.out, h]; rfl
                · cases h)
              clear HO HPP HSh HR
              --#5
              go_wp2_with fail
              refine (HOn.out _ HR1.out).mono ?_
              rintro e w6 ⟨rfl, hb6⟩
              replace hb5 := hb5.trans (hb6.mono hb5.size)
              clear hb6
              have q0 := (B0.out.next hb5).cell 0
              have q1 := (B0.out.next hb5).cell 1
              have hR1 := B1.out.next hb5
              have r0 := hR1.cell 0
              have r1 := hR1.cell 1
              have f0 := hR1.frozen 0
              have f1 := hR1.frozen 1
              have HW := Lib.hid (keyBlk2 hR1 (.slice A (listU T).length c) (.bool lk))
              have HBw := Lib.hid (((HB0.out.trans (hb5.mono HB0.out.size)).setCell (p := ⟨w.heap.size + 1, 0, none⟩) (by simp) (.slice A (listU T).length c)).setCell (p := ⟨w.heap.size + 1, 1, none⟩) (by simp) (.bool lk))
              have HXw := Lib.hid (((HX.out.next (HB0.out.trans (hb5.mono HB0.out.size))).store ⟨w.heap.size + 1, 0, none⟩ (fun hn ad e => by have := HX.out.lt hn ad e; show ad.block ≠ w.heap.size + 1; omega) (.slice A (listU T).length c)).store ⟨w.heap.size + 1, 1, none⟩ (fun hn ad e => by have := HX.out.lt hn ad e; show ad.block ≠ w.heap.size + 1; omega) (.bool lk))
              clear hR1
              go_wp2_with fail
              have e0 := HW.out.cell 0
              have e1 := HW.out.cell 1
              rw [HRR.out]
              refine bodyPost_ret (v := .tuple #[.agg #[.slice A (listU T).length c, .bool lk], .int .i64 3]) (by simp [results, Tryd.results22, go_sem, e0, e1]) rfl ?_
              exact ⟨A, c, rfl, HXw.out, .inl ⟨rfl, rfl⟩, HBw.out⟩
            · have HLn : Hid (LeftD s o (k + 1) (k + 1) T2) := Lib.hid (by
                rcases HPP.out with ⟨h, _⟩ | ⟨T3, h, h2⟩
                · cases h
                · injection h with h; subst h; exact h2)
              have HS2 := Lib.hid (HSh.out T2 rfl)
              have HOn : Hid (∀ W (r : RTx W A1 (listU T1)), Calls Tryd.prog 28 #[.slice A1 (listU T1).length c1, .string (s.extract b k)] W fun e w' => (∃ A' c', e = .returned (.tuple #[.slice A' (listU T2).length c', .bool true]) ∧ RTx w' A' (listU T2) ∧ (A' = A1 ∧ listU T2 = listU T1 ∨ ∀ ad, A' = some ad → W.heap.size ≤ ad.block)) ∧ Below W.heap.size W w') := HO
              clear HO HPP HSh
              --#6
              go_wp2_with fail
              refine (HOn.out _ HR1.out).mono ?_
              rintro e w6 ⟨⟨A2, c2, rfl, hr2, hfa⟩, hb6⟩
              have HB6 := Lib.hid (HB5.out.trans (hb6.mono HB5.out.size))
              have HR2 := Lib.hid hr2
              have HN2 : Hid (A2 = A ∧ listU T2 = listU T ∨ ∀ ad, A2 = some ad → w.heap.size + 2 ≤ ad.block) := Lib.hid (by
                rcases hfa with ⟨h1, h2⟩ | h
                · rw [h1, h2]; exact HN1.out
                · exact .inr fun ad e => by have h3 := h ad e; have h4 := HB5.out.size; omega)
              clear hb6 hr2 hfa
              --#7
              go_wp2_with fail
              go_roundw
              case rel => exact ⟨k + 1, k + 1, T2, A2, c2, by omega, rfl, by go_num, by go_num, HR2.out, HS2.out, HN2.out, HLn.out, HB6.out⟩
              case measure => simp [intOf]; omega
          · have m3 := m6 hz
            have m4 : (0 : Int) ≤ (k : Int) := by omega
            clear m6
            rcases st with _ | T2
            · have HOn : Hid (∀ W (r : RTx W A1 (listU T1)), Calls Tryd.prog 28 #[.slice A1 (listU T1).length c1, .string (s.extract b k)] W fun e w' => e = .returned (.tuple #[.slice A1 (listU T1).length c1, .bool false]) ∧ Below W.heap.size W w') := HO
              have HRR : Hid (R = (3, T, lk)) := Lib.hid (by
                rcases HPP.out with ⟨_, h⟩ | ⟨T2, h, _⟩
                · rw [HR.out, h]; rfl
                · cases h)
              clear HO HPP HSh HR
              --#5
              go_wp2_with fail
              refine (HOn.out _ HR1.out).mono ?_
              rintro e w6 ⟨rfl, hb6⟩
              replace hb5 := hb5.trans (hb6.mono hb5.size)
              clear hb6
              have q0 := (B0.out.next hb5).cell 0
              have q1 := (B0.out.next hb5).cell 1
              have hR1 := B1.out.next hb5
              have r0 := hR1.cell 0
              have r1 := hR1.cell 1
              have f0 := hR1.frozen 0
              have f1 := hR1.frozen 1
              have HW := Lib.hid (keyBlk2 hR1 (.slice A (listU T).length c) (.bool lk))
              have HBw := Lib.hid (((HB0.out.trans (hb5.mono HB0.out.size)).setCell (p := ⟨w.heap.size + 1, 0, none⟩) (by simp) (.slice A (listU T).length c)).setCell (p := ⟨w.heap.size + 1, 1, none⟩) (by simp) (.bool lk))
              have HXw := Lib.hid (((HX.out.next (HB0.out.trans (hb5.mono HB0.out.size))).store ⟨w.heap.size + 1, 0, none⟩ (fun hn ad e => by have := HX.out.lt hn ad e; show ad.block ≠ w.heap.size + 1; omega) (.slice A (listU T).length c)).store ⟨w.heap.size + 1, 1, none⟩ (fun hn ad e => by have := HX.out.lt hn ad e; show ad.block ≠ w.heap.size + 1; omega) (.bool lk))
              clear hR1
              go_wp2_with fail
              have e0 := HW.out.cell 0
              have e1 := HW.out.cell 1
              rw [HRR.out]
              refine bodyPost_ret (v := .tuple #[.agg #[.slice A (listU T).length c, .bool lk], .int .i64 3]) (by simp [results, Tryd.results22, go_sem, e0, e1]) rfl ?_
              exact ⟨A, c, rfl, HXw.out, .inl ⟨rfl, rfl⟩, HBw.out⟩
            · have HLn : Hid (LeftD s o (k + 1) (k + 1) T2) := Lib.hid (by
                rcases HPP.out with ⟨h, _⟩ | ⟨T3, h, h2⟩
                · cases h
                · injection h with h; subst h; exact h2)
              have HS2 := Lib.hid (HSh.out T2 rfl)
              have HOn : Hid (∀ W (r : RTx W A1 (listU T1)), Calls Tryd.prog 28 #[.slice A1 (listU T1).length c1, .string (s.extract b k)] W fun e w' => (∃ A' c', e = .returned (.tuple #[.slice A' (listU T2).length c', .bool true]) ∧ RTx w' A' (listU T2) ∧ (A' = A1 ∧ listU T2 = listU T1 ∨ ∀ ad, A' = some ad → W.heap.size ≤ ad.block)) ∧ Below W.heap.size W w') := HO
              clear HO HPP HSh
              --#6
              go_wp2_with fail
              refine (HOn.out _ HR1.out).mono ?_
              rintro e w6 ⟨⟨A2, c2, rfl, hr2, hfa⟩, hb6⟩
              have HB6 := Lib.hid (HB5.out.trans (hb6.mono HB5.out.size))
              have HR2 := Lib.hid hr2
              have HN2 : Hid (A2 = A ∧ listU T2 = listU T ∨ ∀ ad, A2 = some ad → w.heap.size + 2 ≤ ad.block) := Lib.hid (by
                rcases hfa with ⟨h1, h2⟩ | h
                · rw [h1, h2]; exact HN1.out
                · exact .inr fun ad e => by have h3 := h ad e; have h4 := HB5.out.size; omega)
              clear hb6 hr2 hfa
              --#7
              go_wp2_with fail
              go_roundw
              case rel => exact ⟨k + 1, k + 1, T2, A2, c2, by omega, rfl, by go_num, by go_num, HR2.out, HS2.out, HN2.out, HLn.out, HB6.out⟩
              case measure => simp [intOf]; omega
      · subst hks
        have m1 : ((((s.size + 1 : Nat) : Int)) ≤ (s.size : Int)) = False := eq_false (by omega)
        have HUs := Lib.hid (fun W r => usedL_any A1 c1 (listU T1) (by omega) (by unfold listU; rw [usedF_eq]; exact HS1.out.used) W r)
        have hue : usedL (listU T1) = usedT T1 := usedF_eq T1 0
        rw [hue] at HUs
        have HRn : Hid (R = if 804 < usedT T1 then (5, T, lk) else if lk then (6, T, lk) else (0, T1, lo)) := Lib.hid (by rw [HR.out, hos]; rfl)
        clear hue HR hos
        generalize hus : usedT T1 = u at *
        replace hus := Lib.hid hus
        --#8
        go_wp2_with fail
        refine (HUs.out _ HR1.out).mono ?_
        rintro e w6 ⟨rfl, rfl⟩
        by_cases hbig : 804 < u
        · have m2 : ((804 : Int) < (u : Int)) = True := eq_true (by omega)
          have HRR : Hid (R = (5, T, lk)) := Lib.hid (by rw [HRn.out, if_pos hbig])
          clear HRn hbig
          have q0 := (B0.out.next hb5).cell 0
          have q1 := (B0.out.next hb5).cell 1
          have hR1 := B1.out.next hb5
          have r0 := hR1.cell 0
          have r1 := hR1.cell 1
          have f0 := hR1.frozen 0
          have f1 := hR1.frozen 1
          have HW := Lib.hid (keyBlk2 hR1 (.slice A (listU T).length c) (.bool lk))
          have HBw := Lib.hid (((HB0.out.trans (hb5.mono HB0.out.size)).setCell (p := ⟨w.heap.size + 1, 0, none⟩) (by simp) (.slice A (listU T).length c)).setCell (p := ⟨w.heap.size + 1, 1, none⟩) (by simp) (.bool lk))
          have HXw := Lib.hid (((HX.out.next (HB0.out.trans (hb5.mono HB0.out.size))).store ⟨w.heap.size + 1, 0, none⟩ (fun hn ad e => by have := HX.out.lt hn ad e; show ad.block ≠ w.heap.size + 1; omega) (.slice A (listU T).length c)).store ⟨w.heap.size + 1, 1, none⟩ (fun hn ad e => by have := HX.out.lt hn ad e; show ad.block ≠ w.heap.size + 1; omega) (.bool lk))
          clear hR1
          go_wp2_with fail
          have e0 := HW.out.cell 0
          have e1 := HW.out.cell 1
          rw [HRR.out]
          refine bodyPost_ret (v := .tuple #[.agg #[.slice A (listU T).length c, .bool lk], .int .i64 5]) (by simp [results, Tryd.results22, go_sem, e0, e1]) rfl ?_
          exact ⟨A, c, rfl, HXw.out, .inl ⟨rfl, rfl⟩, HBw.out⟩
        · have m2 : ((804 : Int) < (u : Int)) = False := eq_false (by omega)
          have HRm : Hid (R = if lk then (6, T, lk) else (0, T1, lo)) := Lib.hid (by rw [HRn.out, if_neg hbig])
          clear HRn hbig
          rcases lk with _ | _
          · have HRR : Hid (R = (0, T1, lo)) := HRm
            clear HRm
            have q1 := (B0.out.next hb5).cell 1
            have hR1 := B1.out.next hb5
            have r0 := hR1.cell 0
            have r1 := hR1.cell 1
            have f0 := hR1.frozen 0
            have f1 := hR1.frozen 1
            have HW := Lib.hid (keyBlk2 hR1 (.slice A1 (listU T1).length c1) (.bool lo))
            have HBw := Lib.hid (((HB0.out.trans (hb5.mono HB0.out.size)).setCell (p := ⟨w.heap.size + 1, 0, none⟩) (by simp) (.slice A1 (listU T1).length c1)).setCell (p := ⟨w.heap.size + 1, 1, none⟩) (by simp) (.bool lo))
            have HXw := Lib.hid ((HR1.out.store ⟨w.heap.size + 1, 0, none⟩ (fun hn ad e => HNe.out hn ad e) (.slice A1 (listU T1).length c1)).store ⟨w.heap.size + 1, 1, none⟩ (fun hn ad e => HNe.out hn ad e) (.bool lo))
            clear hR1
            --#9
            go_wp2_with fail
            have e0 := HW.out.cell 0
            have e1 := HW.out.cell 1
            rw [HRR.out]
            refine bodyPost_ret (v := .tuple #[.agg #[.slice A1 (listU T1).length c1, .bool lo], .int .i64 0]) (by simp [results, Tryd.results22, go_sem, e0, e1]) rfl ?_
            exact ⟨A1, c1, rfl, HXw.out, HN1.out.imp id (fun h ad e => by have := h ad e; omega), HBw.out⟩
          · have HRR : Hid (R = (6, T, true)) := HRm
            clear HRm
            have q0 := (B0.out.next hb5).cell 0
            have q1 := (B0.out.next hb5).cell 1
            have hR1 := B1.out.next hb5
            have r0 := hR1.cell 0
            have r1 := hR1.cell 1
            have f0 := hR1.frozen 0
            have f1 := hR1.frozen 1
            have HW := Lib.hid (keyBlk2 hR1 (.slice A (listU T).length c) (.bool true))
            have HBw := Lib.hid (((HB0.out.trans (hb5.mono HB0.out.size)).setCell (p := ⟨w.heap.size + 1, 0, none⟩) (by simp) (.slice A (listU T).length c)).setCell (p := ⟨w.heap.size + 1, 1, none⟩) (by simp) (.bool true))
            have HXw := Lib.hid (((HX.out.next (HB0.out.trans (hb5.mono HB0.out.size))).store ⟨w.heap.size + 1, 0, none⟩ (fun hn ad e => by have := HX.out.lt hn ad e; show ad.block ≠ w.heap.size + 1; omega) (.slice A (listU T).length c)).store ⟨w.heap.size + 1, 1, none⟩ (fun hn ad e => by have := HX.out.lt hn ad e; show ad.block ≠ w.heap.size + 1; omega) (.bool true))
            clear hR1
            go_wp2_with fail
            have e0 := HW.out.cell 0
            have e1 := HW.out.cell 1
            rw [HRR.out]
            refine bodyPost_ret (v := .tuple #[.agg #[.slice A (listU T).length c, .bool true], .int .i64 6]) (by simp [results, Tryd.results22, go_sem, e0, e1]) rfl ?_
            exact ⟨A, c, rfl, HXw.out, .inl ⟨rfl, rfl⟩, HBw.out⟩
end Go.Proofs.YtlhabooeeohniaaDoor

/-
  Layer 21's law: an act, done by both.
-/
import Derived.Test.YtlhabooeeohniaaDoorUdkN
namespace Go.Proofs.YtlhabooeeohniaaDoor
open Go Go.RowKit

/-- An act. -/
structure Ak where
  kind : Int
  cl : Bool
  lo : Bool
  data : ByteArray
def Ak.cells (a : Ak) : List Value := [.int .i64 a.kind, .bool a.cl, .bool a.lo, .string a.data]
def Ak.val (a : Ak) : Value := .agg #[.int .i64 a.kind, .bool a.cl, .bool a.lo, .string a.data]
def cut3 (s : ByteArray) : ByteArray := if 3000 < s.size then s.extract 0 3000 else s
theorem cut3_size (s : ByteArray) : (cut3 s).size ≤ 3000 := by
  unfold cut3
  split
  · rw [ByteArray.size_extract]; omega
  · omega
/-- What an act makes of texts and lock. -/
def actU (T : List ByteArray) (lk : Bool) (a : Ak) : List ByteArray × Bool := if a.kind = 1 then (T, a.lo) else if a.kind = 2 then (noT, lk) else (defU T lk a.cl a.lo (nb (cut3 a.data))).2
theorem actU_short (T : List ByteArray) (lk : Bool) (a : Ak) (h : ShortT T) : ShortT (actU T lk a).1 := by
  unfold actU
  split
  · exact h
  · split
    · exact noT_short
    · exact defU_short T lk a.cl a.lo _ h (by rw [nb_len]; have := cut3_size a.data; omega)
theorem RTx.grown {w w' : World} {A : Option Addr} {l : List Tx} {K : Nat} (h : RTx w A l) (hg : w.grownBy w' (some K)) (hne : 0 < l.length → ∀ ad, A = some ad → ad.block ≠ K) : RTx w' A l := by
  refine ⟨h.1, fun hn => ?_⟩
  obtain ⟨ad, e, hb, hc⟩ := h.2 hn
  refine ⟨ad, e, Nat.lt_of_lt_of_le hb hg.size, fun j v hv => ?_⟩
  rw [hg.cell_far _ (by rw [block_of_add]; exact hb) (by rw [block_of_add]; intro e2; injection e2 with e2; exact hne hn ad e e2)]
  exact hc j v hv
/-- Both are alike in memory: a box of keys, a list of texts that lies apart from it. -/
structure Both (w : World) (K : Nat) (A : Option Addr) (T : List ByteArray) (lk : Bool) : Prop where
  key : KeyB w K T lk
  tx : RTx w A (listU T)
  far : 0 < (listU T).length → ∀ ad, A = some ad → ad.block ≠ K
  short : ShortT T
theorem Both.next {w w' : World} {K : Nat} {A : Option Addr} {T : List ByteArray} {lk : Bool} (h : Both w K A T lk) (hb : Below w.heap.size w w') : Both w' K A T lk := ⟨h.key.next hb, h.tx.next hb, h.far, h.short⟩
theorem keyBlk1 {w : World} {R : Nat} {t : TypeId} {x y : Value} (h : Blk w R t #[x, y]) (v : Value) : Blk (w.setCell ⟨R, 1, none⟩ v) R t #[x, v] := by
  have := h.set_ 1 v
  simpa using this
theorem keyBlk0 {w : World} {R : Nat} {t : TypeId} {x y : Value} (h : Blk w R t #[x, y]) (v : Value) : Blk (w.setCell ⟨R, 0, none⟩ v) R t #[v, y] := by
  have := h.set_ 0 v
  simpa using this
theorem grownU_set {A B : World} {K : Nat} (h : A.grownBy B (some K)) (b i : Nat) (hb : A.heap.size ≤ b) (v : Value) : A.grownBy (B.setCell ⟨b, i, none⟩ v) (some K) := grown_far h (setCell_grown B b i v) (fun r e => .inl (by cases e; exact hb))
theorem grownU_next {A B C : World} {K : Nat} (h : A.grownBy B (some K)) (hb : Below B.heap.size B C) : A.grownBy C (some K) := grown_far (row := none) h (grown_of_below hb) (fun r e => by cases e)
theorem Both.set {w : World} {K : Nat} {A : Option Addr} {T : List ByteArray} {lk : Bool} (h : Both w K A T lk) (b i : Nat) (hb : b ≠ K) (hA : 0 < (listU T).length → ∀ ad, A = some ad → ad.block ≠ b) (v : Value) : Both (w.setCell ⟨b, i, none⟩ v) K A T lk :=
  ⟨⟨h.key.1.far (fun e => hb e.symm) v, h.key.2⟩, h.tx.store ⟨b, i, none⟩ hA v, h.far, h.short⟩

set_option maxRecDepth 100000 in
set_option maxHeartbeats 8000000 in
theorem do_any (K : Nat) (A : Option Addr) (c : Nat) (T : List ByteArray) (lk : Bool) (a : Ak) (w : World) (h : Both w K A T lk) (hu : UEnv w) (hfar : FarU K) :
    Calls Tryd.prog 8 #[.pointer (some ⟨K, 0, none⟩), .agg #[.slice A (listU T).length c, .bool lk], a.val] w fun e w' => ∃ A' c', e = .returned (.tuple #[.agg #[.slice A' (listU (actU T lk a).1).length c', .bool (actU T lk a).2], .bool true]) ∧ Both w' K A' (actU T lk a).1 (actU T lk a).2 ∧ (A' = A ∧ listU (actU T lk a).1 = listU T ∨ ∀ ad, A' = some ad → w.heap.size ≤ ad.block) ∧ w.grownBy w' (some K) := by
  obtain ⟨R, hR⟩ : ∃ R, R = actU T lk a := ⟨_, rfl⟩
  rw [← hR]
  have H := Lib.hid h; have HU := Lib.hid hu; have HF := Lib.hid hfar
  have hKw := h.key.1.lt
  obtain ⟨kind, cl, lo, data⟩ := a
  unfold Ak.val
  simp only
  have HRa : Hid (R = if kind = 1 then (T, lo) else if kind = 2 then (noT, lk) else (defU T lk cl lo (nb (cut3 data))).2) := Lib.hid hR
  obtain ⟨c1, c2⟩ : ∃ z1 z2 : Nat, z1 = w.heap.size ∧ z2 = w.heap.size := ⟨_, _, rfl, rfl⟩
  have b0 := ((Blk.new w 29 #[.slice A (listU T).length c, .bool lk]).alloc (.cells #[.int .i64 kind, .bool cl, .bool lo, .string data] 35)).alloc (.cells #[.slice none 0 0, .bool false] 29)
  have b1 := (Blk.new (w.alloc (.cells #[.slice A (listU T).length c, .bool lk] 29)) 35 #[.int .i64 kind, .bool cl, .bool lo, .string data]).alloc (.cells #[.slice none 0 0, .bool false] 29)
  have b2 := Blk.new ((w.alloc (.cells #[.slice A (listU T).length c, .bool lk] 29)).alloc (.cells #[.int .i64 kind, .bool cl, .bool lo, .string data] 35)) 29 #[.slice none 0 0, .bool false]
  rw [World.size_alloc] at b1 b2
  rw [World.size_alloc] at b2
  have hB : Below w.heap.size w (((w.alloc (.cells #[.slice A (listU T).length c, .bool lk] 29)).alloc (.cells #[.int .i64 kind, .bool cl, .bool lo, .string data] 35)).alloc (.cells #[.slice none 0 0, .bool false] 29)) := (((Below.refl _ w).alloc (Nat.le_refl _) _).alloc (by simp) _).alloc (by simp; omega) _
  clear h hu hfar hR c1 c2
  go_enter Tryd.func8, Tryd.ntmps8
  go_upto_region 1 with fail
  generalize hW0 : (((w.alloc (.cells #[.slice A (listU T).length c, .bool lk] 29)).alloc (.cells #[.int .i64 kind, .bool cl, .bool lo, .string data] 35)).alloc (.cells #[.slice none 0 0, .bool false] 29)) = W0 at *
  clear hW0
  have k0 := b1.cell 0; have k1 := b1.cell 1; have k2 := b1.cell 2; have k3 := b1.cell 3
  have B0 := Lib.hid b0; have B1 := Lib.hid b1; have B2 := Lib.hid b2; have HB := Lib.hid hB
  have HH := Lib.hid (H.out.next hB)
  have hW0 : w.heap.size + 3 ≤ W0.heap.size := by have := b2.lt; omega
  have hA2 : 0 < (listU T).length → ∀ ad, A = some ad → ad.block < w.heap.size := H.out.tx.lt
  have HA2 := Lib.hid hA2
  clear b0 b1 b2 hB hA2
  by_cases hk1 : kind = 1
  · subst hk1
    have HRR : Hid (R = (T, lo)) := HRa
    clear HRa
    have HLk := Lib.hid (lock_any K T lk lo W0 HH.out.key)
    --#1
    go_wp2_with fail
    refine HLk.out.mono ?_
    rintro e w1 ⟨⟨_, rfl⟩, hk, hg⟩
    have b0 := B0.out.grown hg (fun e => by injection e with e; omega)
    have b1 := B1.out.grown hg (fun e => by injection e with e; omega)
    have b2 := B2.out.grown hg (fun e => by injection e with e; omega)
    have q0 := b0.cell 0; have q1 := b0.cell 1; have f1 := b0.frozen 1
    have k2' := b1.cell 2
    have HX := Lib.hid (keyBlk1 b0 (.bool lo))
    have b2' := b2.far (p := ⟨w.heap.size, 1, none⟩) (by show w.heap.size + 2 ≠ w.heap.size; omega) (.bool lo)
    have x0 := HX.out.cell 0; have x1 := HX.out.cell 1
    have r0 := b2'.cell 0; have r1 := b2'.cell 1; have g0 := b2'.frozen 0; have g1 := b2'.frozen 1
    have HW := Lib.hid (keyBlk2 b2' (.slice A (listU T).length c) (.bool lo))
    have hBo : Both w1 K A T lo := ⟨hk, HH.out.tx.grown hg HH.out.far, HH.out.far, HH.out.short⟩
    have HBo := Lib.hid (((hBo.set w.heap.size 1 (by omega) (fun hn ad e => by have := HA2.out hn ad e; omega) (.bool lo)).set (w.heap.size + 2) 0 (by omega) (fun hn ad e => by have := HA2.out hn ad e; omega) (.slice A (listU T).length c)).set (w.heap.size + 2) 1 (by omega) (fun hn ad e => by have := HA2.out hn ad e; omega) (.bool lo))
    have HG := Lib.hid (grownU_set (grownU_set (grownU_set (grown_join (grown_b HB.out (Nat.le_refl _)) hg) w.heap.size 1 (Nat.le_refl _) (.bool lo)) (w.heap.size + 2) 0 (by omega) (.slice A (listU T).length c)) (w.heap.size + 2) 1 (by omega) (.bool lo))
    clear b0 b1 b2 b2' hk hg hBo HLk k0 k1 k2 k3
    --#2
    go_wp2_with fail
    have e0 := HW.out.cell 0
    have e1 := HW.out.cell 1
    rw [HRR.out]
    refine bodyPost_ret (v := .tuple #[.agg #[.slice A (listU T).length c, .bool lo], .bool true]) (by simp [results, Tryd.results8, go_sem, e0, e1]) rfl ?_
    exact ⟨A, c, rfl, HBo.out, .inl ⟨rfl, rfl⟩, HG.out⟩
  · by_cases hk2 : kind = 2
    · subst hk2
      have HRR : Hid (R = (noT, lk)) := HRa
      clear HRa
      have HLk := Lib.hid (clearU_any K T lk W0 HH.out.key)
      --#3
      go_wp2_with fail
      refine HLk.out.mono ?_
      rintro e w1 ⟨⟨_, rfl⟩, hk, hg⟩
      have b0 := B0.out.grown hg (fun e => by injection e with e; omega)
      have b2 := B2.out.grown hg (fun e => by injection e with e; omega)
      have q0 := b0.cell 0; have q1 := b0.cell 1; have f0 := b0.frozen 0
      have HX := Lib.hid (keyBlk0 b0 (.slice none 0 0))
      have b2' := b2.far (p := ⟨w.heap.size, 0, none⟩) (by show w.heap.size + 2 ≠ w.heap.size; omega) (.slice none 0 0)
      have x0 := HX.out.cell 0; have x1 := HX.out.cell 1
      have r0 := b2'.cell 0; have r1 := b2'.cell 1; have g0 := b2'.frozen 0; have g1 := b2'.frozen 1
      have HW := Lib.hid (keyBlk2 b2' (.slice none 0 0) (.bool lk))
      have hBo : Both w1 K none noT lk := ⟨hk, Reads.none_, fun _ ad e => (by cases e), noT_short⟩
      have HBo := Lib.hid (((hBo.set w.heap.size 0 (by omega) (fun hn ad e => (by cases e)) (.slice none 0 0)).set (w.heap.size + 2) 0 (by omega) (fun hn ad e => (by cases e)) (.slice none 0 0)).set (w.heap.size + 2) 1 (by omega) (fun hn ad e => (by cases e)) (.bool lk))
      have HG := Lib.hid (grownU_set (grownU_set (grownU_set (grown_join (grown_b HB.out (Nat.le_refl _)) hg) w.heap.size 0 (Nat.le_refl _) (.slice none 0 0)) (w.heap.size + 2) 0 (by omega) (.slice none 0 0)) (w.heap.size + 2) 1 (by omega) (.bool lk))
      clear b0 b2 b2' hk hg hBo HLk k0 k1 k2 k3
      --#4
      go_wp2_with fail
      have e0 := HW.out.cell 0
      have e1 := HW.out.cell 1
      rw [HRR.out]
      refine bodyPost_ret (v := .tuple #[.agg #[.slice none (listU noT).length 0, .bool lk], .bool true]) (by simp [results, Tryd.results8, go_sem, e0, e1]; rfl) rfl ?_
      exact ⟨none, 0, rfl, HBo.out, .inr (fun ad e => by cases e), HG.out⟩
    · have HRR : Hid (R = (defU T lk cl lo (nb (cut3 data))).2) := Lib.hid (by rw [HRa.out, if_neg hk1, if_neg hk2])
      have m1 : (kind == 1) = false := by simpa using hk1
      have m2 : (kind == 2) = false := by simpa using hk2
      clear HRa hk1 hk2
      have hc3 := cut3_size data
      have hd : (cut3 data = data ∧ ((3000 : Int) < (data.size : Int)) = False) ∨ (cut3 data = data.extract 0 3000 ∧ ((3000 : Int) < (data.size : Int)) = True ∧ (3000 : Int) ≤ (data.size : Int)) := by
        unfold cut3
        by_cases h : 3000 < data.size
        · rw [if_pos h]; exact .inr ⟨rfl, eq_true (by omega), by omega⟩
        · rw [if_neg h]; exact .inl ⟨rfl, eq_false (by omega)⟩
      generalize hcd : cut3 data = cd at *
      replace hcd := Lib.hid hcd
      rcases hd with ⟨hd, m3⟩ | ⟨hd, m3, m4⟩
      · subst hd
        have B1' : Hid (Blk W0 (w.heap.size + 1) 35 #[.int .i64 kind, .bool cl, .bool lo, .string cd]) := B1
        have HH1 := HH; have B01 := B0; have B21 := B2
        have HG1 : Hid (w.grownBy W0 (some K)) := Lib.hid (grown_b HB.out (Nat.le_refl _))
        have HU1 := Lib.hid (HU.out.next HB.out)
        have hsz : w.heap.size + 3 ≤ W0.heap.size := hW0
        --#5
        go_upto_region 12 with fail
        clear k0 k1 k2 k3 m1 m2 m3 HB B0 B1 B2 HH hW0
        generalize W0 = W1 at *
        have k1 := B1'.out.cell 1; have k2 := B1'.out.cell 2; have k3 := B1'.out.cell 3
        have HD := Lib.hid (define_any K T lk cl lo cd (by omega) W1 HH1.out.key HH1.out.short HU1.out HF.out)
        obtain ⟨D, hD⟩ : ∃ D, D = defU T lk cl lo (nb cd) := ⟨_, rfl⟩
        have HDs : Hid (ShortT D.2.1) := Lib.hid (by rw [hD]; exact defU_short T lk cl lo _ HH1.out.short (by rw [nb_len]; omega))
        have HRD := fun W A c r => refDef_any A c T lk cl lo cd (by omega) W r HH1.out.short
        rw [← hD] at HD HRD
        have HRR2 : Hid (R = D.2) := Lib.hid (by rw [HRR.out, hD])
        replace HRD := Lib.hid HRD
        clear hD HRR
        obtain ⟨er, T', lk'⟩ := D
        simp only at HD HRD HDs HRR2
        --#7
        go_wp2_with fail
        refine HD.out.mono ?_
        rintro e w2 ⟨rfl, hk, hg⟩
        have B02 := Lib.hid (B01.out.grown hg (fun e => by injection e with e; omega))
        have B12 := Lib.hid (B1'.out.grown hg (fun e => by injection e with e; omega))
        have B22 := Lib.hid (B21.out.grown hg (fun e => by injection e with e; omega))
        have HK2 := Lib.hid hk
        have HT2 := Lib.hid (HH1.out.tx.grown hg HH1.out.far)
        have HG2 := Lib.hid (grown_join HG1.out hg)
        have hsz2 := Nat.le_trans hsz hg.size
        clear hk hg k1 k2 k3 HD hsz
        have k1 := B12.out.cell 1; have k2 := B12.out.cell 2; have k3 := B12.out.cell 3
        have q0 := B02.out.cell 0; have q1 := B02.out.cell 1
        --#8
        go_wp2_with fail
        refine (HRD.out w2 A c HT2.out).mono ?_
        rintro e w3 ⟨A', c', rfl, hr3, hfa, hb3⟩
        have HB3 := Lib.hid hb3
        have HK3 := Lib.hid (HK2.out.next hb3)
        have HG3 := Lib.hid (grownU_next HG2.out hb3)
        have B23 := Lib.hid (B22.out.next hb3)
        have hsz3 := Nat.le_trans hsz2 hb3.size
        have HR3 := Lib.hid hr3
        clear hb3 hr3 k1 k2 k3 q0 q1
        have hfar3 : 0 < (listU T').length → ∀ ad, A' = some ad → ad.block ≠ K := fun hn ad e => by
          rcases hfa with ⟨h1, h2⟩ | h
          · exact HH1.out.far (by rw [← h2]; exact hn) ad (by rw [← h1]; exact e)
          · have := h ad e; omega
        have hfar4 : 0 < (listU T').length → ∀ ad, A' = some ad → ad.block ≠ w.heap.size + 2 := fun hn ad e => by
          rcases hfa with ⟨h1, h2⟩ | h
          · have := HA2.out (by rw [← h2]; exact hn) ad (by rw [← h1]; exact e); omega
          · have := h ad e; omega
        have HBo3 : Hid (Both w3 K A' T' lk') := Lib.hid ⟨HK3.out, HR3.out, hfar3, HDs.out⟩
        have HFa4 := Lib.hid hfar4
        have hw3 := hsz3
        -- the answer's box
        have n0 := Blk.new w3 29 #[.slice A' (listU T').length c', .bool lk']
        have HN0 := Lib.hid n0
        have HB4 := Lib.hid (show Below w3.heap.size w3 (w3.alloc (.cells #[.slice A' (listU T').length c', .bool lk'] 29)) from (Below.refl _ _).alloc (Nat.le_refl _) _)
        have HBo4 := Lib.hid (HBo3.out.next HB4.out)
        have HG4 := Lib.hid (grownU_next HG3.out HB4.out)
        have B24 := Lib.hid (B23.out.next HB4.out)
        have HFa := Lib.hid (hfa.imp id (fun h ad e => Nat.le_trans (by omega : w.heap.size ≤ w2.heap.size) (h ad e)))
        clear hfa hfar3 hfar4 n0 hsz2
        have z0 := HN0.out.cell 0; have z1 := HN0.out.cell 1
        have r0 := B24.out.cell 0; have r1 := B24.out.cell 1; have g0 := B24.out.frozen 0; have g1 := B24.out.frozen 1
        have HW := Lib.hid (keyBlk2 B24.out (.slice A' (listU T').length c') (.bool lk'))
        have HBo5 := Lib.hid ((HBo4.out.set (w.heap.size + 2) 0 (by omega) HFa4.out (.slice A' (listU T').length c')).set (w.heap.size + 2) 1 (by omega) HFa4.out (.bool lk'))
        have HG5 := Lib.hid (grownU_set (grownU_set HG4.out (w.heap.size + 2) 0 (by omega) (.slice A' (listU T').length c')) (w.heap.size + 2) 1 (by omega) (.bool lk'))
        --#9
        go_wp2_with fail
        have e0 := HW.out.cell 0
        have e1 := HW.out.cell 1
        rw [HRR2.out]
        refine bodyPost_ret (v := .tuple #[.agg #[.slice A' (listU T').length c', .bool lk'], .bool true]) (by simp [results, Tryd.results8, go_sem, e0, e1]) rfl ?_
        exact ⟨A', c', rfl, HBo5.out, HFa.out, HG5.out⟩
      · have f3 := B1.out.frozen 3
        have hs1 := B1.out.set_ 3 (.string cd)
        have B1' : Hid (Blk (W0.setCell ⟨w.heap.size + 1, 3, none⟩ (.string cd)) (w.heap.size + 1) 35 #[.int .i64 kind, .bool cl, .bool lo, .string cd]) := Lib.hid (by simpa using hs1)
        have HH1 := Lib.hid (HH.out.set (w.heap.size + 1) 3 (by omega) (fun hn ad e => by have := HA2.out hn ad e; omega) (.string cd))
        have B01 := Lib.hid (B0.out.far (p := ⟨w.heap.size + 1, 3, none⟩) (by show w.heap.size ≠ w.heap.size + 1; omega) (.string cd))
        have B21 := Lib.hid (B2.out.far (p := ⟨w.heap.size + 1, 3, none⟩) (by show w.heap.size + 2 ≠ w.heap.size + 1; omega) (.string cd))
        have HG1 : Hid (w.grownBy (W0.setCell ⟨w.heap.size + 1, 3, none⟩ (.string cd)) (some K)) := Lib.hid (grownU_set (grown_b HB.out (Nat.le_refl _)) (w.heap.size + 1) 3 (by omega) (.string cd))
        have HU1 : Hid (UEnv (W0.setCell ⟨w.heap.size + 1, 3, none⟩ (.string cd))) := Lib.hid ((HU.out.next HB.out).grown (setCell_grown W0 (w.heap.size + 1) 3 _) (FarU.new HU.out (by omega)))
        have hsz : w.heap.size + 3 ≤ (W0.setCell ⟨w.heap.size + 1, 3, none⟩ (.string cd)).heap.size := by rw [setCell_size]; exact hW0
        clear hs1
        --#6
        go_upto_region 12 with fail
        rw [← hd]
        clear hd k0 k1 k2 k3 m1 m2 m3 m4 HB B0 B1 B2 HH hW0 f3
        generalize (W0.setCell ⟨w.heap.size + 1, 3, none⟩ (.string cd)) = W1 at *
        have k1 := B1'.out.cell 1; have k2 := B1'.out.cell 2; have k3 := B1'.out.cell 3
        have HD := Lib.hid (define_any K T lk cl lo cd (by omega) W1 HH1.out.key HH1.out.short HU1.out HF.out)
        obtain ⟨D, hD⟩ : ∃ D, D = defU T lk cl lo (nb cd) := ⟨_, rfl⟩
        have HDs : Hid (ShortT D.2.1) := Lib.hid (by rw [hD]; exact defU_short T lk cl lo _ HH1.out.short (by rw [nb_len]; omega))
        have HRD := fun W A c r => refDef_any A c T lk cl lo cd (by omega) W r HH1.out.short
        rw [← hD] at HD HRD
        have HRR2 : Hid (R = D.2) := Lib.hid (by rw [HRR.out, hD])
        replace HRD := Lib.hid HRD
        clear hD HRR
        obtain ⟨er, T', lk'⟩ := D
        simp only at HD HRD HDs HRR2
        --#7
        go_wp2_with fail
        refine HD.out.mono ?_
        rintro e w2 ⟨rfl, hk, hg⟩
        have B02 := Lib.hid (B01.out.grown hg (fun e => by injection e with e; omega))
        have B12 := Lib.hid (B1'.out.grown hg (fun e => by injection e with e; omega))
        have B22 := Lib.hid (B21.out.grown hg (fun e => by injection e with e; omega))
        have HK2 := Lib.hid hk
        have HT2 := Lib.hid (HH1.out.tx.grown hg HH1.out.far)
        have HG2 := Lib.hid (grown_join HG1.out hg)
        have hsz2 := Nat.le_trans hsz hg.size
        clear hk hg k1 k2 k3 HD hsz
        have k1 := B12.out.cell 1; have k2 := B12.out.cell 2; have k3 := B12.out.cell 3
        have q0 := B02.out.cell 0; have q1 := B02.out.cell 1
        --#8
        go_wp2_with fail
        refine (HRD.out w2 A c HT2.out).mono ?_
        rintro e w3 ⟨A', c', rfl, hr3, hfa, hb3⟩
        have HB3 := Lib.hid hb3
        have HK3 := Lib.hid (HK2.out.next hb3)
        have HG3 := Lib.hid (grownU_next HG2.out hb3)
        have B23 := Lib.hid (B22.out.next hb3)
        have hsz3 := Nat.le_trans hsz2 hb3.size
        have HR3 := Lib.hid hr3
        clear hb3 hr3 k1 k2 k3 q0 q1
        have hfar3 : 0 < (listU T').length → ∀ ad, A' = some ad → ad.block ≠ K := fun hn ad e => by
          rcases hfa with ⟨h1, h2⟩ | h
          · exact HH1.out.far (by rw [← h2]; exact hn) ad (by rw [← h1]; exact e)
          · have := h ad e; omega
        have hfar4 : 0 < (listU T').length → ∀ ad, A' = some ad → ad.block ≠ w.heap.size + 2 := fun hn ad e => by
          rcases hfa with ⟨h1, h2⟩ | h
          · have := HA2.out (by rw [← h2]; exact hn) ad (by rw [← h1]; exact e); omega
          · have := h ad e; omega
        have HBo3 : Hid (Both w3 K A' T' lk') := Lib.hid ⟨HK3.out, HR3.out, hfar3, HDs.out⟩
        have HFa4 := Lib.hid hfar4
        have hw3 := hsz3
        -- the answer's box
        have n0 := Blk.new w3 29 #[.slice A' (listU T').length c', .bool lk']
        have HN0 := Lib.hid n0
        have HB4 := Lib.hid (show Below w3.heap.size w3 (w3.alloc (.cells #[.slice A' (listU T').length c', .bool lk'] 29)) from (Below.refl _ _).alloc (Nat.le_refl _) _)
        have HBo4 := Lib.hid (HBo3.out.next HB4.out)
        have HG4 := Lib.hid (grownU_next HG3.out HB4.out)
        have B24 := Lib.hid (B23.out.next HB4.out)
        have HFa := Lib.hid (hfa.imp id (fun h ad e => Nat.le_trans (by omega : w.heap.size ≤ w2.heap.size) (h ad e)))
        clear hfa hfar3 hfar4 n0 hsz2
        have z0 := HN0.out.cell 0; have z1 := HN0.out.cell 1
        have r0 := B24.out.cell 0; have r1 := B24.out.cell 1; have g0 := B24.out.frozen 0; have g1 := B24.out.frozen 1
        have HW := Lib.hid (keyBlk2 B24.out (.slice A' (listU T').length c') (.bool lk'))
        have HBo5 := Lib.hid ((HBo4.out.set (w.heap.size + 2) 0 (by omega) HFa4.out (.slice A' (listU T').length c')).set (w.heap.size + 2) 1 (by omega) HFa4.out (.bool lk'))
        have HG5 := Lib.hid (grownU_set (grownU_set HG4.out (w.heap.size + 2) 0 (by omega) (.slice A' (listU T').length c')) (w.heap.size + 2) 1 (by omega) (.bool lk'))
        --#9
        go_wp2_with fail
        have e0 := HW.out.cell 0
        have e1 := HW.out.cell 1
        rw [HRR2.out]
        refine bodyPost_ret (v := .tuple #[.agg #[.slice A' (listU T').length c', .bool lk'], .bool true]) (by simp [results, Tryd.results8, go_sem, e0, e1]) rfl ?_
        exact ⟨A', c', rfl, HBo5.out, HFa.out, HG5.out⟩
end Go.Proofs.YtlhabooeeohniaaDoor
